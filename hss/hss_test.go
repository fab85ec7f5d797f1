package hss

import (
	"encoding/binary"
	"encoding/hex"
	"math"
	"strconv"
	"strings"
	"sync"
	"testing"

	"annalist/api"
	"annalist/ots"
	"annalist/sha"
	"annalist/wire"
)

// The oracle says what the chapter's words say, of layers 1 to 3 alone: nothing of this package is called in it.
// What layer 3 answers in it is kept, since the tests ask for the same again and again.

var table = sha.Make()

const keys = 64

// number is layer 2's Number, of numbers that have bytes.
func number(n int) string {
	return string(binary.BigEndian.AppendUint32(nil, uint32(n)))
}

func childWant(seed string, k int) string {
	return number(len(seed)) + seed + "c" + number(k)
}

var publicsKept, partsKept sync.Map

// publicWant is layer 3's public key.
func publicWant(seed string) string {
	if p, ok := publicsKept.Load(seed); ok {
		return p.(string)
	}
	p := ots.Public(table, seed)
	publicsKept.Store(seed, p)
	return p
}

// partWant is layer 3's signature.
func partWant(seed string, q int, message string) string {
	asked := [3]string{seed, strconv.Itoa(q), message}
	if s, ok := partsKept.Load(asked); ok {
		return s.(string)
	}
	s, e := ots.Sign(table, seed, q, message)
	if e != api.OK {
		panic(e)
	}
	partsKept.Store(asked, s)
	return s
}

// placeWant is which key of the seed, and which one of its child, the number n stands for.
func placeWant(n int) (k, q int) {
	for n >= 8 {
		k, n = k+1, n-8
	}
	return k, n
}

// aheadWant is the first part of a signature.
func aheadWant(seed string, k int) string {
	return partWant(seed, k, "C"+publicWant(childWant(seed, k)))
}

func signatureWant(seed string, n int, message string) string {
	k, q := placeWant(n)
	child := childWant(seed, k)
	return aheadWant(seed, k) + publicWant(child) + partWant(child, q, message)
}

// seeds answers ordinary ones, the empty one, and such as look like what is put together ahead of hashing.
func seeds() []string {
	return []string{"", "seed", "seee", "\x00", "c", "\xff\xfe\x80", childWant("seed", 1), strings.Repeat("annalist", 200)}
}

// messages answers ordinary ones, the empty one, and such as look like what a seed's key signs.
func messages() []string {
	return []string{"", "\x00", "hello", "hellp", "C", "C" + publicWant(childWant("seed", 1)), strings.Repeat("annalist", 9000)}
}

// sign answers a signature that must be.
func sign(t *testing.T, seed string, n int, message string) string {
	t.Helper()
	s, e := Sign(table, seed, n, message)
	if e != api.OK {
		t.Fatalf("Sign with the number %d: %v", n, e)
	}
	return s
}

// take asks that the signature is verified, with that number.
func take(t *testing.T, what string, n int, public, message, signature string) {
	t.Helper()
	if got, ok := Verify(table, public, message, signature); got != n || !ok {
		t.Errorf("%s: %d, %v, want %d", what, got, ok, n)
	}
}

// refuse asks that the signature is not verified.
func refuse(t *testing.T, what, public, message, signature string) {
	t.Helper()
	if n, ok := Verify(table, public, message, signature); n != 0 || ok {
		t.Errorf("%s: %d, %v", what, n, ok)
	}
}

// changed answers b with the byte at that place otherwise, by the bits of by.
func changed(b string, at int, by byte) string {
	x := []byte(b)
	x[at] ^= by
	return string(x)
}

func digest(b string) string {
	return hex.EncodeToString([]byte(sha.Sum(table, b)))
}

// The places in a signature at which something begins.
const (
	firstNumber  = 0
	firstChain   = 4
	firstPath    = 2148
	childAt      = 2244
	secondNumber = 2276
	secondChain  = 2280
	secondPath   = 4424
	wholeLength  = 4520
)

// The tests of P10.1: a child's seed, and public keys.

func TestChild(t *testing.T) {
	for _, seed := range seeds() {
		for _, k := range []int{0, 1, 2, 3, 4, 5, 6, 7, 8, 63, 255, 256, 70000, math.MaxInt32} {
			if c := Child(seed, k); c != childWant(seed, k) || c != wire.Text(seed)+"c"+wire.Number(k) {
				t.Errorf("seed %.20q, child %d: %q", seed, k, c)
			}
		}
		// Layer 2's bytes of these are those of 0.
		for _, k := range []int{-1, -8, math.MinInt32, math.MinInt, math.MaxInt32 + 1, math.MaxUint32 + 2, math.MaxInt} {
			if c := Child(seed, k); c != childWant(seed, 0) {
				t.Errorf("seed %.20q, child %d: %q", seed, k, c)
			}
		}
	}
}

func TestKnownChildren(t *testing.T) {
	for _, c := range []struct {
		seed string
		k    int
		want string
	}{
		{"a", 1, "\x00\x00\x00\x01ac\x00\x00\x00\x01"},
		{"", 0, "\x00\x00\x00\x00c\x00\x00\x00\x00"},
		{"seed", 7, "\x00\x00\x00\x04seedc\x00\x00\x00\x07"},
		{strings.Repeat("s", 258), 0x01020304, "\x00\x00\x01\x02" + strings.Repeat("s", 258) + "c\x01\x02\x03\x04"},
	} {
		if got := Child(c.seed, c.k); got != c.want {
			t.Errorf("seed %.20q, child %d: %q, want %q", c.seed, c.k, got, c.want)
		}
	}
}

func TestPublic(t *testing.T) {
	for _, seed := range seeds() {
		if p := Public(table, seed); p != publicWant(seed) || len(p) != 32 {
			t.Errorf("seed %.20q: %x", seed, p)
		}
	}
}

func TestKnownHashes(t *testing.T) {
	for _, c := range []struct{ what, got, want string }{
		{"public key of seed", hex.EncodeToString([]byte(Public(table, "seed"))), "02a47feaf8f2c032d5726f8ce39825afc623b0e4072077748cbc75efc429cdea"},
		{"public key of no bytes", hex.EncodeToString([]byte(Public(table, ""))), "062bfb55fd48d8c7e4d7456289e09d40838dbcb5e3c4fd81675295a2ffa097c3"},
		{"public key of a child", hex.EncodeToString([]byte(Public(table, Child("seed", 1)))), "7ed4a978d99bfd7f8ff773f8fbd20ac3021d0483e1ee512427fd54ee5a968e93"},
		{"signature 13", digest(sign(t, "seed", 13, "hello")), "bc694238937735ec7fab1f787b7d6f514ff5aee3c2c15e54b149da96c46a91f4"},
		{"signature 0", digest(sign(t, "", 0, "")), "8521c8f0f760e213e9652cbf37a8f5f32f502c6b981af19f7732c2d06b4a3cdc"},
		{"signature 7", digest(sign(t, "seed", 7, "")), "0e8b0514ae61c20d0339d9771ae70de77f5ae74d5afb48808deccb1e0010e2d1"},
		{"signature 8", digest(sign(t, "seed", 8, "hello")), "1c27fcdb97a0b423c8efb246856801a0a3827829f12ff63901d22a70ff29d9a1"},
		{"signature 63", digest(sign(t, "", 63, strings.Repeat("x", 100))), "1aca6f09e1c1b6c11a281e33ccdc02f47244dc9572d5af49cb7a51d8dfa55353"},
		{"signature 50", digest(sign(t, "\xff\x00c", 50, "annalist")), "15d02f4e027fdb56446f0a75a5f9a84f7f6fb5e6ed7806db64bd3d8ea92159b1"},
	} {
		if c.got != c.want {
			t.Errorf("%s: %s, want %s", c.what, c.got, c.want)
		}
	}
}

// The tests of P10.1 and P10.2: what is signed has its parts, and is verified.

func TestSignWithEachNumber(t *testing.T) {
	t.Parallel()
	for _, c := range []struct{ seed, message string }{{"", ""}, {"seed", "hello"}} {
		public := publicWant(c.seed)
		for n := range keys {
			s, e := Sign(table, c.seed, n, c.message)
			if e != api.OK || len(s) != wholeLength {
				t.Fatalf("seed %q, number %d: %d bytes, %v", c.seed, n, len(s), e)
			}
			if s != signatureWant(c.seed, n, c.message) {
				t.Errorf("seed %q, number %d: another signature", c.seed, n)
			}
			take(t, "seed "+c.seed, n, public, c.message, s)
		}
	}
}

func TestSignOfSeveralSeedsAndMessages(t *testing.T) {
	t.Parallel()
	for i, seed := range seeds() {
		for j, m := range messages() {
			n := []int{0, 7, 8, 63, 29}[(i+j)%5]
			s := sign(t, seed, n, m)
			if s != signatureWant(seed, n, m) {
				t.Errorf("seed %.20q, number %d, message %.20q: another signature", seed, n, m)
			}
			take(t, "several", n, publicWant(seed), m, s)
			take(t, "several, the public key of this package", n, Public(table, seed), m, s)
		}
	}
}

// TestPartsOfSignature asks of each part, cut out by the chapter's sizes, whether it is layer 3's.
func TestPartsOfSignature(t *testing.T) {
	for _, c := range []struct{ n, k, q int }{{0, 0, 0}, {7, 0, 7}, {8, 1, 0}, {13, 1, 5}, {56, 7, 0}, {63, 7, 7}} {
		s := sign(t, "seed", c.n, "hello")
		child := s[2244 : 2244+32]
		if child != ots.Public(table, wire.Text("seed")+"c"+wire.Number(c.k)) {
			t.Errorf("number %d: child %x", c.n, child)
		}
		if k, ok := ots.Verify(table, publicWant("seed"), "C"+child, s[:2244]); k != c.k || !ok {
			t.Errorf("number %d, first part: %d, %v", c.n, k, ok)
		}
		if q, ok := ots.Verify(table, child, "hello", s[2244+32:]); q != c.q || !ok {
			t.Errorf("number %d, last part: %d, %v", c.n, q, ok)
		}
	}
}

func TestSignWithNoNumber(t *testing.T) {
	for _, n := range []int{-1, -2, -7, -8, -9, -63, -64, -256, math.MinInt32, math.MinInt, math.MinInt + 1,
		64, 65, 71, 72, 127, 128, 255, 256, math.MaxInt32, math.MaxInt32 + 1, math.MaxUint32 + 1, math.MaxUint32 + 14, math.MaxInt} {
		for _, seed := range []string{"", "seed"} {
			for _, m := range []string{"", "hello"} {
				if s, e := Sign(table, seed, n, m); e != api.ErrSpent || s != "" {
					t.Errorf("number %d: %d bytes, %v", n, len(s), e)
				}
			}
		}
	}
}

// The tests of P10.2: no key is used twice.

// TestNoKeyIsUsedTwice asks with which keys the parts of all a seed's signatures are signed, each of another message:
// those behind are never the same, and a key ahead signs one thing only.
func TestNoKeyIsUsedTwice(t *testing.T) {
	t.Parallel()
	type key struct {
		public string
		q      int
	}
	for _, seed := range []string{"", "seed"} {
		behind, ahead := map[key]int{}, map[int]string{}
		for n := range keys {
			m := "message " + strconv.Itoa(n)
			s := sign(t, seed, n, m)
			child := s[childAt:secondNumber]
			q, ok := ots.Verify(table, child, m, s[secondNumber:])
			if other, is := behind[key{child, q}]; is || !ok {
				t.Errorf("seed %q, the numbers %d and %d: one key, %v", seed, other, n, ok)
			}
			behind[key{child, q}] = n
			k, ok := ots.Verify(table, publicWant(seed), "C"+child, s[:childAt])
			if said, is := ahead[k]; is && said != child || !ok {
				t.Errorf("seed %q, number %d: the key %d has signed two children, %v", seed, n, k, ok)
			}
			ahead[k] = child
		}
		if len(behind) != keys || len(ahead) != 8 {
			t.Errorf("seed %q: %d keys behind, %d ahead", seed, len(behind), len(ahead))
		}
	}
}

// TestChildrenAreUnlike goes through children, and theirs, of seeds that look like one another's children.
func TestChildrenAreUnlike(t *testing.T) {
	seen := map[string]string{}
	look := func(what, seed string) {
		if other, is := seen[seed]; is {
			t.Errorf("%s and %s are one", what, other)
		}
		seen[seed] = what
	}
	for i, seed := range []string{"", "a", "ac", "\x00\x00\x00\x01ac", "c", "\x00\x00\x00\x00"} {
		what := "seed " + strconv.Itoa(i)
		look(what, seed)
		for k := range 8 {
			look(what+", child "+strconv.Itoa(k), Child(seed, k))
			for l := range 8 {
				look(what+", child "+strconv.Itoa(k)+", child "+strconv.Itoa(l), Child(Child(seed, k), l))
			}
		}
	}
}

// The tests of P10.1: what is verified.

// TestVerifyOfWhatTheOracleSigns has each number, with nothing of this package in what is verified.
func TestVerifyOfWhatTheOracleSigns(t *testing.T) {
	for n := range keys {
		take(t, "oracle", n, publicWant("oracle"), "hello", signatureWant("oracle", n, "hello"))
	}
}

// TestVerifyLooksAtBothPartsOnly signs with seeds that are nobody's child: which seeds there are can't be seen in a signature.
func TestVerifyLooksAtBothPartsOnly(t *testing.T) {
	for _, c := range []struct{ n, k, q int }{{0, 0, 0}, {7, 0, 7}, {8, 1, 0}, {42, 5, 2}, {63, 7, 7}} {
		for _, last := range []string{"", "other", "seed"} {
			p := publicWant(last)
			s := partWant("seed", c.k, "C"+p) + p + partWant(last, c.q, "hello")
			take(t, "last part of "+last, c.n, publicWant("seed"), "hello", s)
		}
	}
}

// The tests of P10.1: what is not verified.

func TestVerifyOfOtherLengths(t *testing.T) {
	public := publicWant("seed")
	for _, n := range []int{0, 13} {
		s := signatureWant("seed", n, "hello")
		for _, many := range []int{0, 1, 3, 4, 5, 31, 32, 36, 2212, 2243, 2244, 2245, 2275, 2276, 2277, 2280, 4424, 4488, 4516, 4519} {
			refuse(t, "the first "+strconv.Itoa(many), public, "hello", s[:many])
			refuse(t, "the last "+strconv.Itoa(many), public, "hello", s[len(s)-many:])
		}
		for _, rest := range []string{"\x00", "x", s[:4], s[:32], s[childAt:secondNumber], s[secondNumber:], s[:childAt], s} {
			refuse(t, "left over", public, "hello", s+rest)
			refuse(t, "ahead", public, "hello", rest+s)
		}
		for _, at := range []int{firstChain, firstPath, childAt, secondNumber, secondChain, secondPath, wholeLength} {
			refuse(t, "a byte more ahead of "+strconv.Itoa(at), public, "hello", s[:at]+"\x00"+s[at:])
			refuse(t, "a byte fewer ahead of "+strconv.Itoa(at), public, "hello", s[:at-1]+s[at:])
			refuse(t, "a hash more ahead of "+strconv.Itoa(at), public, "hello", s[:at]+s[childAt:secondNumber]+s[at:])
		}
		refuse(t, "without the first part", public, "hello", s[childAt:])
		refuse(t, "without the child", public, "hello", s[:childAt]+s[secondNumber:])
		refuse(t, "without the last part", public, "hello", s[:secondNumber])
		refuse(t, "a byte moved over", public, "hello", s[1:]+s[:1])
	}
	refuse(t, "empty", public, "", "")
	refuse(t, "empty public key", "", "", "")
}

// TestVerifyOfOneLevel hands in what layer 3 verifies by itself.
func TestVerifyOfOneLevel(t *testing.T) {
	public := publicWant("seed")
	s := partWant("seed", 0, "hello")
	refuse(t, "one level", public, "hello", s)
	refuse(t, "one level twice", public, "hello", s+s)
	refuse(t, "one level twice, and the key", public, "hello", s+public+s)
	refuse(t, "one level, and noughts", public, "hello", s+strings.Repeat("\x00", wholeLength-len(s)))
}

func TestVerifyWithAnyByteOtherwise(t *testing.T) {
	t.Parallel()
	public, s := publicWant("seed"), signatureWant("seed", 13, "hello")
	for at := range len(s) {
		refuse(t, "the byte "+strconv.Itoa(at), public, "hello", changed(s, at, 1<<(at%8)))
	}
	for _, at := range []int{firstNumber, 1, 2, 3, childAt, secondNumber - 1, secondNumber, secondNumber + 1, secondNumber + 2, secondNumber + 3} {
		for by := 1; by < 256; by++ {
			refuse(t, "the byte "+strconv.Itoa(at), public, "hello", changed(s, at, byte(by)))
		}
	}
}

func TestVerifyOfOtherNumbers(t *testing.T) {
	public := publicWant("seed")
	for _, n := range []int{0, 7, 8, 63} {
		s := signatureWant("seed", n, "hello")
		for _, at := range []int{firstNumber, secondNumber} {
			for other := range 72 {
				if b := number(other); b != s[at:at+4] {
					refuse(t, "number "+strconv.Itoa(other), public, "hello", s[:at]+b+s[at+4:])
				}
			}
			for _, b := range []string{"\x80\x00\x00\x00", "\xff\xff\xff\xff", "\x7f\xff\xff\xff", "\xff\xff\xff\xf8", "\x00\x00\x01\x00"} {
				refuse(t, "number of bytes", public, "hello", s[:at]+b+s[at+4:])
			}
		}
		if a, b := s[firstNumber:firstChain], s[secondNumber:secondChain]; a != b {
			refuse(t, "numbers changed about", public, "hello", b+s[firstChain:secondNumber]+a+s[secondChain:])
		}
	}
}

func TestVerifyOfAnotherMessage(t *testing.T) {
	public := publicWant("seed")
	for i, m := range messages() {
		s := signatureWant("seed", 13, m)
		for j, other := range messages() {
			if i != j {
				refuse(t, "messages "+strconv.Itoa(i)+" and "+strconv.Itoa(j), public, other, s)
			}
		}
		refuse(t, "a byte more", public, m+"\x00", s)
		refuse(t, "a mark more", public, "C"+m, s)
		refuse(t, "a length more", public, wire.Text(m), s)
	}
}

func TestVerifyUnderAnotherPublicKey(t *testing.T) {
	public := publicWant("seed")
	for _, n := range []int{0, 13, 63} {
		s := signatureWant("seed", n, "hello")
		for _, other := range []string{"", "\x00", strings.Repeat("\x00", 32), public[:31], public[1:], public + "\x00", public + public,
			changed(public, 0, 1), changed(public, 31, 0x80), publicWant("seee"), publicWant(""), s[childAt:secondNumber], publicWant(childWant("seed", 2))} {
			refuse(t, "public key", other, "hello", s)
		}
	}
}

// TestVerifyOfPartsOfTwoSeeds puts together parts that each hold somewhere.
func TestVerifyOfPartsOfTwoSeeds(t *testing.T) {
	for _, n := range []int{0, 13, 63} {
		one, two := signatureWant("seed", n, "hello"), signatureWant("seee", n, "hello")
		for _, public := range []string{publicWant("seed"), publicWant("seee")} {
			for _, parts := range []string{
				one[:childAt] + one[childAt:secondNumber] + two[secondNumber:],
				one[:childAt] + two[childAt:secondNumber] + one[secondNumber:],
				one[:childAt] + two[childAt:secondNumber] + two[secondNumber:],
				two[:childAt] + one[childAt:secondNumber] + one[secondNumber:],
				two[:childAt] + one[childAt:secondNumber] + two[secondNumber:],
				two[:childAt] + two[childAt:secondNumber] + one[secondNumber:],
			} {
				refuse(t, "two seeds", public, "hello", parts)
			}
		}
	}
}

// TestVerifyOfPartsOfTwoChildren puts together parts of one seed's signatures. The same child's last parts may stand for one another.
func TestVerifyOfPartsOfTwoChildren(t *testing.T) {
	public := publicWant("seed")
	for _, c := range [][2]int{{0, 8}, {7, 8}, {13, 63}, {63, 0}} {
		one, two := signatureWant("seed", c[0], "hello"), signatureWant("seed", c[1], "hello")
		refuse(t, "the last part", public, "hello", one[:secondNumber]+two[secondNumber:])
		refuse(t, "the child", public, "hello", one[:childAt]+two[childAt:secondNumber]+one[secondNumber:])
		refuse(t, "the first part", public, "hello", two[:childAt]+one[childAt:])
	}
	one, two := signatureWant("seed", 8, "hello"), signatureWant("seed", 15, "hello")
	take(t, "the last part of the same child", 15, public, "hello", one[:secondNumber]+two[secondNumber:])
}

func TestVerifyOfPartsChangedAbout(t *testing.T) {
	public := publicWant("seed")
	for _, n := range []int{0, 9, 63} {
		s := signatureWant("seed", n, "hello")
		ahead, child, behind := s[:childAt], s[childAt:secondNumber], s[secondNumber:]
		for _, parts := range []string{behind + child + ahead, child + ahead + behind, ahead + behind + child, ahead + child + ahead, behind + child + behind} {
			refuse(t, "changed about", public, "hello", parts)
			refuse(t, "changed about, the child's key", child, "hello", parts)
			refuse(t, "changed about, what the seed's key says", public, "C"+child, parts)
		}
	}
}

// TestVerifyOfChildrenSignedOtherwise lets the right key of the seed say something else than the chapter asks.
func TestVerifyOfChildrenSignedOtherwise(t *testing.T) {
	public := publicWant("seed")
	child := childWant("seed", 1)
	p := publicWant(child)
	for i, said := range []string{"", "C", p, "c" + p, "C" + wire.Text(p), "C" + p + "hello", "C" + p[:31], "C" + p + "\x00", "C" + child, "hello",
		"C" + publicWant("seed"), "C" + publicWant(childWant("seed", 2))} {
		s := partWant("seed", 1, said) + p + partWant(child, 5, "hello")
		refuse(t, "said "+strconv.Itoa(i), public, "hello", s)
	}
	for i, said := range []string{"", "Chello", "C" + p, wire.Text("hello"), p + "hello"} {
		s := partWant("seed", 1, "C"+p) + p + partWant(child, 5, said)
		refuse(t, "signed "+strconv.Itoa(i), public, "hello", s)
		take(t, "signed "+strconv.Itoa(i), 13, public, said, s)
	}
}

// The tests of R1 and of the limits.

func TestAnyTableEnds(t *testing.T) {
	var none sha.Table
	p := Public(none, "seed")
	s, e := Sign(none, "seed", 13, "hello")
	if e != api.OK || len(s) != wholeLength || len(p) != 32 {
		t.Errorf("%d bytes, %v", len(s), e)
	}
	Verify(none, p, "hello", s)
	Verify(none, "", "", strings.Repeat("\xff", wholeLength))
	Verify(none, "", "", strings.Repeat("\x00", wholeLength))
	if s, e := Sign(none, "", -1, ""); e != api.ErrSpent || s != "" {
		t.Errorf("%d bytes, %v", len(s), e)
	}
}

func TestEachTimeTheSame(t *testing.T) {
	s := sign(t, "seed", 29, "hello")
	for range 3 {
		if again := sign(t, "seed", 29, "hello"); again != s {
			t.Error("another signature")
		}
		take(t, "again", 29, publicWant("seed"), "hello", s)
		refuse(t, "again", publicWant("seed"), "hellp", s)
	}
}

// TestSizesAreLayerThrees holds the constants by which a signature is cut against what layer 3 answers.
func TestSizesAreLayerThrees(t *testing.T) {
	if n := len(partWant("seed", 0, "")); partSize != n || partSize != 2244 {
		t.Errorf("a part is of %d bytes, not %d", n, partSize)
	}
	if childEnd != secondNumber || signatureSize != wholeLength || signatures != keys || 1<<pathHashes != api.Keys {
		t.Errorf("%d, %d, %d, %d", childEnd, signatureSize, signatures, pathHashes)
	}
}

// FuzzVerify asks that nothing but what was signed is verified.
func FuzzVerify(f *testing.F) {
	public := publicWant("seed")
	s := signatureWant("seed", 13, "hello")
	f.Add("hello", s)
	f.Add("hellp", s)
	f.Add("", "")
	f.Fuzz(func(t *testing.T, message, signature string) {
		n, ok := Verify(table, public, message, signature)
		if want := message == "hello" && signature == s; ok != want || ok && n != 13 || !ok && n != 0 {
			t.Errorf("%d, %v", n, ok)
		}
	})
}

func BenchmarkSign(b *testing.B) {
	for b.Loop() {
		Sign(table, "seed", 13, "hello")
	}
}

func BenchmarkVerify(b *testing.B) {
	public, s := publicWant("seed"), signatureWant("seed", 13, "hello")
	for b.Loop() {
		Verify(table, public, "hello", s)
	}
}
