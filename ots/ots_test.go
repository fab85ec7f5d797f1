package ots

import (
	"encoding/hex"
	"math"
	"strconv"
	"strings"
	"testing"

	"annalist/api"
	"annalist/sha"
	"annalist/wire"
)

// The oracle says what the chapter's words say, of sha and wire alone: nothing of this package is called in it.

var table = sha.Make()

// h is H of the parts, one behind the other.
func h(parts ...string) string {
	return sha.Sum(table, strings.Join(parts, ""))
}

// chainWant is the value of a chain that is so many steps on.
func chainWant(seed string, q, i, on int) string {
	x := h("k", wire.Text(seed), wire.Number(q), wire.Number(i))
	for j := 0; j < on; j++ {
		x = h("c", wire.Number(q), wire.Number(i), wire.Number(j), x)
	}
	return x
}

func leafWant(seed string, q int) string {
	last := ""
	for i := 0; i < 67; i++ {
		last += chainWant(seed, q, i, 15)
	}
	return h("p", wire.Number(q), last)
}

// signer has the nodes of a seed's signer, named by the keys that are below them.
type signer struct {
	seed                                                         string
	n0, n1, n2, n3, n4, n5, n6, n7, n01, n23, n45, n67, n03, n47 string
	public                                                       string
}

func signerOf(seed string) signer {
	s := signer{seed: seed,
		n0: leafWant(seed, 0), n1: leafWant(seed, 1), n2: leafWant(seed, 2), n3: leafWant(seed, 3),
		n4: leafWant(seed, 4), n5: leafWant(seed, 5), n6: leafWant(seed, 6), n7: leafWant(seed, 7)}
	s.n01, s.n23, s.n45, s.n67 = h("t", s.n0, s.n1), h("t", s.n2, s.n3), h("t", s.n4, s.n5), h("t", s.n6, s.n7)
	s.n03, s.n47 = h("t", s.n01, s.n23), h("t", s.n45, s.n67)
	s.public = h("t", s.n03, s.n47)
	return s
}

func (s signer) pathWant(q int) string {
	return []string{
		s.n1 + s.n23 + s.n47, s.n0 + s.n23 + s.n47, s.n3 + s.n01 + s.n47, s.n2 + s.n01 + s.n47,
		s.n5 + s.n67 + s.n03, s.n4 + s.n67 + s.n03, s.n7 + s.n45 + s.n03, s.n6 + s.n45 + s.n03,
	}[q]
}

// digitsWant reads the digits from the hexadecimal writing of the hash, and of the sum.
func digitsWant(q int, message string) [67]int {
	figures := hex.EncodeToString([]byte(h("m", wire.Number(q), wire.Text(message))))
	sum := 0
	for _, f := range figures {
		sum += 15 - figure(f)
	}
	tail := "00" + strconv.FormatInt(int64(sum), 16)
	figures += tail[len(tail)-3:]
	var digits [67]int
	for i, f := range figures {
		digits[i] = figure(f)
	}
	return digits
}

func figure(f rune) int {
	return strings.IndexRune("0123456789abcdef", f)
}

func (s signer) signatureWant(q int, message string) string {
	values := ""
	for i, d := range digitsWant(q, message) {
		values += chainWant(s.seed, q, i, d)
	}
	return wire.Number(q) + values + s.pathWant(q)
}

func hashHex(b string) string {
	return hex.EncodeToString([]byte(b))
}

// messages answers ordinary ones, the empty one, and such as look like what is put together ahead of hashing.
func messages() []string {
	return []string{"", "\x00", "x", "hello", "hellp", "m", wire.Text("hello"), "\xff\xfe\x80", strings.Repeat("annalist", 9000)}
}

// sign answers a signature that must be.
func sign(t *testing.T, seed string, q int, message string) string {
	t.Helper()
	s, e := Sign(table, seed, q, message)
	if e != api.OK {
		t.Fatalf("Sign with the key %d: %v", q, e)
	}
	return s
}

// refuse asks that the signature is not verified.
func refuse(t *testing.T, what, public, message, signature string) {
	t.Helper()
	if q, ok := Verify(table, public, message, signature); q != 0 || ok {
		t.Errorf("%s: %d, %v", what, q, ok)
	}
}

// changed answers b with the byte at that place otherwise, by the bits of by.
func changed(b string, at int, by byte) string {
	x := []byte(b)
	x[at] ^= by
	return string(x)
}

// The tests of P3.1: digits.

func TestDigits(t *testing.T) {
	for _, m := range messages() {
		for q := range api.Keys {
			if d := Digits(table, q, m); d != digitsWant(q, m) {
				t.Errorf("key %d, message of %d bytes: %v, want %v", q, len(m), d, digitsWant(q, m))
			}
		}
	}
}

func TestDigitsOfTheEmptyMessage(t *testing.T) {
	want := [67]int{9, 14, 13, 14, 9, 6, 8, 14, 0, 0, 5, 10, 2, 3, 15, 15, 5, 2, 7, 4, 11, 12, 4, 9, 12, 14, 2, 12, 8, 13, 12, 12,
		2, 4, 10, 9, 0, 10, 8, 2, 2, 6, 2, 5, 2, 10, 11, 7, 10, 14, 8, 14, 11, 11, 4, 14, 2, 0, 1, 7, 4, 13, 3, 6, 1, 13, 8}
	if d := Digits(table, 0, ""); d != want {
		t.Errorf("%v, want %v", d, want)
	}
}

// TestLastDigits goes through messages until each of the last three has been of several values, and holds
// these against the sum.
func TestLastDigits(t *testing.T) {
	var seen [3][16]bool
	for n := range 3000 {
		m := strconv.Itoa(n)
		d := Digits(table, n%api.Keys, m)
		sum := 0
		for _, x := range d[:64] {
			sum += 15 - x
		}
		if d[64]*256+d[65]*16+d[66] != sum {
			t.Fatalf("message %s: %v, of the sum %d", m, d[64:], sum)
		}
		for i, x := range d[64:] {
			if x < 0 || x > 15 {
				t.Fatalf("message %s: %v", m, d[64:])
			}
			seen[i][x] = true
		}
	}
	if !seen[0][1] || !seen[0][2] || !seen[1][0] || !seen[1][15] || !seen[2][0] || !seen[2][15] {
		t.Errorf("too few sums were seen: %v", seen)
	}
}

func TestDigitsOfAnyNumber(t *testing.T) {
	for _, q := range []int{8, 9, 255, 256, 70000, math.MaxInt32} {
		if d := Digits(table, q, "x"); d != digitsWant(q, "x") || d == digitsWant(0, "x") {
			t.Errorf("key %d: %v", q, d)
		}
	}
	// Layer 2's bytes of these are those of 0.
	for _, q := range []int{-1, -8, math.MinInt, math.MaxInt32 + 1, math.MaxUint32 + 2, math.MaxInt} {
		if d := Digits(table, q, "x"); d != digitsWant(0, "x") {
			t.Errorf("key %d: %v", q, d)
		}
	}
}

// The tests of P3.1: public keys and signatures.

func TestPublic(t *testing.T) {
	for _, seed := range []string{"", "seed", "seee", "\x00", wire.Text("seed"), strings.Repeat("s", 1000)} {
		if p := Public(table, seed); p != signerOf(seed).public || len(p) != 32 {
			t.Errorf("seed of %d bytes: %x", len(seed), p)
		}
	}
}

func TestKnownHashes(t *testing.T) {
	for _, c := range []struct{ what, got, want string }{
		{"public key of seed", Public(table, "seed"), "02a47feaf8f2c032d5726f8ce39825afc623b0e4072077748cbc75efc429cdea"},
		{"public key of no bytes", Public(table, ""), "062bfb55fd48d8c7e4d7456289e09d40838dbcb5e3c4fd81675295a2ffa097c3"},
		{"signature with 5", h(sign(t, "seed", 5, "hello")), "7f892ffa151fb516a7e755a7c4e73333a22c41f14e9563b55273958d80b75639"},
		{"signature with 0", h(sign(t, "seed", 0, "")), "1c7b1df844357b0cf2805bcf04089874cb691de9bdd80066bcc11d24295135b1"},
		{"signature with 7", h(sign(t, "seed", 7, strings.Repeat("x", 100))), "e2ee3ed074481b0e038ab7a713dac68c2c49f2ed4294a1fc59b80af92d15216b"},
	} {
		if hashHex(c.got) != c.want {
			t.Errorf("%s: %x, want %s", c.what, c.got, c.want)
		}
	}
}

func TestSignWithEachKey(t *testing.T) {
	for _, seed := range []string{"", "seed"} {
		s := signerOf(seed)
		for q := range api.Keys {
			for _, m := range []string{"", "hello", "message " + strconv.Itoa(q)} {
				signature, e := Sign(table, seed, q, m)
				if e != api.OK || len(signature) != 2244 {
					t.Fatalf("seed %q, key %d, message %q: %d bytes, %v", seed, q, m, len(signature), e)
				}
				if signature != s.signatureWant(q, m) {
					t.Errorf("seed %q, key %d, message %q: another signature", seed, q, m)
				}
			}
		}
	}
}

func TestSignWithNoKey(t *testing.T) {
	for _, q := range []int{-1, -2, -7, -8, -9, -256, math.MinInt32, math.MinInt, math.MinInt + 1,
		8, 9, 15, 16, 255, 256, math.MaxInt32, math.MaxInt32 + 1, math.MaxUint32 + 1, math.MaxInt} {
		for _, m := range []string{"", "x"} {
			if s, e := Sign(table, "seed", q, m); e != api.ErrSpent || s != "" {
				t.Errorf("key %d: %d bytes, %v", q, len(s), e)
			}
		}
	}
}

// The tests of P3.2: what is signed is verified.

func TestWhatIsSignedIsVerified(t *testing.T) {
	for _, seed := range []string{"", "seed"} {
		public := Public(table, seed)
		for q := range api.Keys {
			for _, m := range messages() {
				if n, ok := Verify(table, public, m, sign(t, seed, q, m)); n != q || !ok {
					t.Errorf("seed %q, key %d, message of %d bytes: %d, %v", seed, q, len(m), n, ok)
				}
			}
		}
	}
}

func TestWhatTheOracleSignsIsVerified(t *testing.T) {
	s := signerOf("oracle")
	for q := range api.Keys {
		if n, ok := Verify(table, s.public, "hello", s.signatureWant(q, "hello")); n != q || !ok {
			t.Errorf("key %d: %d, %v", q, n, ok)
		}
	}
}

// The tests of P3.1: what is not verified.

func TestVerifyOfOtherLengths(t *testing.T) {
	public := Public(table, "seed")
	for _, q := range []int{0, 5} {
		s := sign(t, "seed", q, "hello")
		for _, n := range []int{0, 1, 3, 4, 5, 31, 32, 36, 100, 2147, 2148, 2149, 2180, 2212, 2243} {
			refuse(t, "the first "+strconv.Itoa(n), public, "hello", s[:n])
			refuse(t, "the last "+strconv.Itoa(n), public, "hello", s[len(s)-n:])
		}
		for _, rest := range []string{"\x00", "x", s[:4], s[4:36], s[len(s)-32:], s} {
			refuse(t, "left over", public, "hello", s+rest)
			refuse(t, "ahead", public, "hello", rest+s)
		}
	}
	refuse(t, "empty", public, "", "")
	refuse(t, "empty public key", "", "", "")
}

// TestVerifyOfOtherLengthsThatLeadSomewhere hands in public keys to which a path of fewer, or more, others leads.
func TestVerifyOfOtherLengthsThatLeadSomewhere(t *testing.T) {
	w := signerOf("seed")
	s := sign(t, "seed", 0, "hello")
	refuse(t, "no path", w.n0, "hello", s[:2148])
	refuse(t, "a path of one", w.n01, "hello", s[:2180])
	refuse(t, "a path of two", w.n03, "hello", s[:2212])
	refuse(t, "a path of four", h("t", w.public, w.n7), "hello", s+w.n7)
}

func TestVerifyWithAnyByteOtherwise(t *testing.T) {
	const q = 5
	public, s := Public(table, "seed"), sign(t, "seed", q, "hello")
	for at := range len(s) {
		refuse(t, "the byte "+strconv.Itoa(at), public, "hello", changed(s, at, 1<<(at%8)))
	}
	for _, at := range []int{0, 1, 2, 3, 4, 35, 36, 2147, 2148, 2179, 2180, 2211, 2212, 2243} {
		for by := 1; by < 256; by++ {
			refuse(t, "the byte "+strconv.Itoa(at), public, "hello", changed(s, at, byte(by)))
		}
	}
}

func TestVerifyWithOneHashOtherwise(t *testing.T) {
	for _, q := range []int{0, 7} {
		public, s := Public(table, "seed"), sign(t, "seed", q, "hello")
		for at := 4; at < len(s); at += 32 {
			refuse(t, "noughts at "+strconv.Itoa(at), public, "hello", s[:at]+strings.Repeat("\x00", 32)+s[at+32:])
			if at+64 <= len(s) {
				refuse(t, "changed about at "+strconv.Itoa(at), public, "hello", s[:at]+s[at+32:at+64]+s[at:at+32]+s[at+64:])
			}
		}
	}
}

// TestVerifyOfChainsGoneFurther does what whoever has a signature can do: go a chain on, towards another message.
func TestVerifyOfChainsGoneFurther(t *testing.T) {
	const q = 2
	public, s := Public(table, "seed"), sign(t, "seed", q, "hello")
	for i, d := range digitsWant(q, "hello") {
		if d == 15 {
			continue
		}
		at := 4 + 32*i
		refuse(t, "chain "+strconv.Itoa(i), public, "hello", s[:at]+chainWant("seed", q, i, d+1)+s[at+32:])
	}
}

func TestVerifyOfAnotherMessage(t *testing.T) {
	public := Public(table, "seed")
	for q := range api.Keys {
		for i, m := range messages() {
			s := sign(t, "seed", q, m)
			for j, other := range messages() {
				if i != j {
					refuse(t, "messages "+strconv.Itoa(i)+" and "+strconv.Itoa(j), public, other, s)
				}
			}
		}
	}
}

func TestVerifyOfAnotherPublicKey(t *testing.T) {
	w := signerOf("seed")
	for q := range api.Keys {
		s := sign(t, "seed", q, "hello")
		for _, public := range []string{"", "\x00", strings.Repeat("\x00", 32), w.public[:31], w.public[1:], w.public + "\x00", w.public + w.public,
			changed(w.public, 0, 1), changed(w.public, 31, 0x80), signerOf("other").public,
			w.n0, w.n7, w.n01, w.n67, w.n03, w.n47} {
			refuse(t, "public key", public, "hello", s)
		}
	}
}

func TestVerifyOfTheNumberOfAnotherKey(t *testing.T) {
	public := Public(table, "seed")
	for q := range api.Keys {
		s := sign(t, "seed", q, "hello")
		for other := range api.Keys {
			if other != q {
				refuse(t, "another key", public, "hello", wire.Number(other)+s[4:])
			}
		}
	}
}

func TestVerifyOfNumbersFromKeysOn(t *testing.T) {
	public := Public(table, "seed")
	for q := range api.Keys {
		s := sign(t, "seed", q, "hello")
		for _, first := range []string{"\x00\x00\x00\x08", "\x00\x00\x00\x09", "\x00\x00\x00\x10", "\x00\x00\x01\x00", "\x00\x01\x00\x00", "\x01\x00\x00\x00",
			"\x7f\xff\xff\xff", "\x80\x00\x00\x00", "\xff\xff\xff\xff", "\xff\xff\xff\xf8"} {
			refuse(t, "number", public, "hello", first+s[4:])
		}
		// The key's own number, with bits that a reader might lose.
		for at, by := range map[int]byte{0: 0x80, 1: 0x01, 2: 0x01, 3: 0x08} {
			refuse(t, "number and more", public, "hello", changed(s, at, by))
		}
	}
}

// TestVerifyOfNumbersFromKeysOnThatLeadSomewhere makes signatures of keys that no signer has, in which all is
// right but the number.
func TestVerifyOfNumbersFromKeysOnThatLeadSomewhere(t *testing.T) {
	others := []string{h("0"), h("1"), h("2")}
	for _, q := range []int{8, 9, 14, 15, 16, 256, math.MaxInt32} {
		s := wire.Number(q)
		for i, d := range digitsWant(q, "hello") {
			s += chainWant("seed", q, i, d)
		}
		node, bits := leafWant("seed", q), strconv.FormatInt(int64(q), 2)
		for i, other := range others {
			if bits[len(bits)-1-i] == '0' {
				node = h("t", node, other)
			} else {
				node = h("t", other, node)
			}
			s += other
		}
		refuse(t, "key "+strconv.Itoa(q), node, "hello", s)
	}
}

// The tests of R1 and of the limits.

func TestAnyTableEnds(t *testing.T) {
	var none sha.Table
	p := Public(none, "seed")
	s, e := Sign(none, "seed", 3, "hello")
	if e != api.OK || len(s) != 2244 || len(p) != 32 {
		t.Errorf("%d bytes, %v", len(s), e)
	}
	Digits(none, -1, "")
	Verify(none, p, "hello", s)
	Verify(none, "", "", strings.Repeat("\xff", 2244))
}

func TestPathLeadsFromAllKeysToOne(t *testing.T) {
	if 1<<height != api.Keys || messageDigits+3 != api.Chains {
		t.Errorf("height %d, digits %d", height, messageDigits)
	}
}

// FuzzVerify asks that nothing but what was signed is verified.
func FuzzVerify(f *testing.F) {
	public := Public(table, "seed")
	s, _ := Sign(table, "seed", 5, "hello")
	f.Add("hello", s)
	f.Add("hellp", s)
	f.Add("", "")
	f.Fuzz(func(t *testing.T, message, signature string) {
		q, ok := Verify(table, public, message, signature)
		if want := message == "hello" && signature == s; ok != want || ok && q != 5 || !ok && q != 0 {
			t.Errorf("%d, %v", q, ok)
		}
	})
}

func BenchmarkSign(b *testing.B) {
	for b.Loop() {
		Sign(table, "seed", 5, "hello")
	}
}

func BenchmarkVerify(b *testing.B) {
	public := Public(table, "seed")
	s, _ := Sign(table, "seed", 5, "hello")
	for b.Loop() {
		Verify(table, public, "hello", s)
	}
}
