package sha

import (
	"crypto/sha256"
	"encoding/hex"
	"math/big"
	"strings"
	"testing"
)

// sample answers n bytes that are unlike from place to place.
func sample(n int) string {
	b := make([]byte, n)
	for i := range b {
		b[i] = byte(i*7 + i/251)
	}
	return string(b)
}

// want is the digest as Go's own library tells it.
func want(b string) string {
	h := sha256.Sum256([]byte(b))
	return string(h[:])
}

// The tests of this file are of P1.1: first of digests, then of the table.

func TestSumOfKnownTexts(t *testing.T) {
	table := Make()
	for _, c := range []struct{ text, digest string }{
		{"", "e3b0c44298fc1c149afbf4c8996fb92427ae41e4649b934ca495991b7852b855"},
		{"abc", "ba7816bf8f01cfea414140de5dae2223b00361a396177a9cb410ff61f20015ad"},
		{"abcdbcdecdefdefgefghfghighijhijkijkljklmklmnlmnomnopnopq", "248d6a61d20638b8e5c026930c3e6039a33ce45964ff2167f6ecedd419db06c1"},
		{"abcdefghbcdefghicdefghijdefghijkefghijklfghijklmghijklmnhijklmnoijklmnopjklmnopqklmnopqrlmnopqrsmnopqrstnopqrstu", "cf5b16a778af8380036ce59e7b0492370b249b11e8f07a51afac45037afee9d1"},
		{strings.Repeat("a", 1000000), "cdc76e5c9914fb9281a1c7e284d73e67f1809a48a497200e046d39ccc7112cd0"},
	} {
		if got := hex.EncodeToString([]byte(Sum(table, c.text))); got != c.digest {
			t.Errorf("%d bytes: got %s, want %s", len(c.text), got, c.digest)
		}
	}
}

func TestSumOfAllLengthsAroundBlocks(t *testing.T) {
	table := Make()
	for n := range 4*blockSize + 2 {
		if b := sample(n); Sum(table, b) != want(b) {
			t.Errorf("wrong digest of %d bytes", n)
		}
	}
}

func TestSumOfAllBytes(t *testing.T) {
	table := Make()
	for i := range 256 {
		if b := string([]byte{byte(i)}); Sum(table, b) != want(b) {
			t.Errorf("wrong digest of the byte %d", i)
		}
	}
}

func TestLengthIsToldInMoreThanThreeBytes(t *testing.T) {
	table := Make()
	b := strings.Repeat("annalist", 1<<18) // 2^24 bits
	if Sum(table, b) != want(b) {
		t.Error("wrong digest of 2^24 bits")
	}
}

func TestPartsAreOneBehindTheOther(t *testing.T) {
	table := Make()
	for _, n := range []int{0, 1, 55, 56, 63, 64, 65, 119, 120, 127, 128, 129, 200} {
		b := sample(n)
		for cut := range n + 1 {
			d := New(table)
			d.Write(b[:cut])
			d.Write(b[cut:])
			if d.Sum() != want(b) {
				t.Errorf("wrong digest of %d bytes, written in parts of %d and %d", n, cut, n-cut)
			}
		}
	}
}

func TestPartsOfOneSize(t *testing.T) {
	table := Make()
	b := sample(1000)
	for _, size := range []int{1, 2, 3, 55, 56, 63, 64, 65, 119, 120, 128, 999} {
		d := New(table)
		for at := 0; at < len(b); at += size {
			d.Write(b[at:min(at+size, len(b))])
			d.Write("")
		}
		if d.Sum() != want(b) {
			t.Errorf("wrong digest of parts of %d bytes", size)
		}
	}
}

func TestSumLeavesTheDigestAsItIs(t *testing.T) {
	d := New(Make())
	b := sample(300)
	for i := range len(b) {
		before := *d
		if first, second := d.Sum(), d.Sum(); first != want(b[:i]) || second != first {
			t.Fatalf("wrong digest of the first %d bytes", i)
		}
		if *d != before {
			t.Fatalf("Sum changed the digest of the first %d bytes", i)
		}
		d.Write(b[i : i+1])
	}
}

func TestDigestsDoNotTouchEachOther(t *testing.T) {
	table := Make()
	one, other := New(table), New(table)
	b := sample(400)
	for i := range 200 {
		one.Write(b[i : i+1])
		other.Write(b[399-2*i : 400-i])
		if i%7 == 0 {
			one.Sum()
		}
	}
	var written string
	for i := range 200 {
		written += b[399-2*i : 400-i]
	}
	if one.Sum() != want(b[:200]) {
		t.Error("wrong digest of the one")
	}
	if other.Sum() != want(written) {
		t.Error("wrong digest of the other")
	}
}

func TestDigestKeepsItsOwnTable(t *testing.T) {
	table := Make()
	d := New(table)
	table.K[0]++
	table.H[0]++
	d.Write("abc")
	if d.Sum() != want("abc") {
		t.Error("a change of the table reached the digest")
	}
}

func TestAnyTableEnds(t *testing.T) {
	if got := Sum(Table{}, sample(130)); len(got) != 32 {
		t.Errorf("a digest of %d bytes", len(got))
	}
	var d Digest
	d.Write(sample(130))
	if got := d.Sum(); len(got) != 32 {
		t.Errorf("a digest of %d bytes", len(got))
	}
}

func TestTableOfKnownNumbers(t *testing.T) {
	table := Make()
	if want := [8]uint32{0x6a09e667, 0xbb67ae85, 0x3c6ef372, 0xa54ff53a, 0x510e527f, 0x9b05688c, 0x1f83d9ab, 0x5be0cd19}; table.H != want {
		t.Errorf("H: got %08x, want %08x", table.H, want)
	}
	for _, c := range []struct {
		at   int
		want uint32
	}{
		{0, 0x428a2f98}, {1, 0x71374491}, {2, 0xb5c0fbcf}, {3, 0xe9b5dba5},
		{31, 0x14292967}, {32, 0x27b70a85}, {62, 0xbef9a3f7}, {63, 0xc67178f2},
	} {
		if got := table.K[c.at]; got != c.want {
			t.Errorf("K[%d]: got %08x, want %08x", c.at, got, c.want)
		}
	}
	if Make() != table {
		t.Error("a second table is unlike the first")
	}
}

// TestTableOfRoots holds each number between the powers that its definition says it lies between.
func TestTableOfRoots(t *testing.T) {
	table := Make()
	at := 0
	for p := int64(2); at < 64; p++ {
		if !big.NewInt(p).ProbablyPrime(0) {
			continue
		}
		if !isRoot(p, 3, table.K[at]) {
			t.Errorf("K[%d] is not of the cube root of %d", at, p)
		}
		if at < 8 && !isRoot(p, 2, table.H[at]) {
			t.Errorf("H[%d] is not of the square root of %d", at, p)
		}
		at++
	}
}

// isRoot tells whether bits are the first 32 behind the point of p's root of that power.
func isRoot(p, power int64, bits uint32) bool {
	exponent := big.NewInt(power)
	scaled := new(big.Int).Lsh(big.NewInt(p), uint(32*power))
	whole := int64(1)
	for pow(whole+1, power) <= p {
		whole++
	}
	root := big.NewInt(whole<<32 | int64(bits))
	next := new(big.Int).Add(root, big.NewInt(1))
	return new(big.Int).Exp(root, exponent, nil).Cmp(scaled) <= 0 &&
		new(big.Int).Exp(next, exponent, nil).Cmp(scaled) > 0
}

func pow(x, power int64) int64 {
	result := int64(1)
	for range power {
		result *= x
	}
	return result
}

func TestPrimes(t *testing.T) {
	var got []uint64
	for i, p := range primes(64) {
		if i != len(got) {
			t.Errorf("%d is told as number %d", p, i)
		}
		got = append(got, p)
	}
	if len(got) != 64 || got[0] != 2 || got[1] != 3 || got[63] != 311 {
		t.Errorf("got %v", got)
	}
	for range primes(0) {
		t.Error("one prime of none")
	}
	for i := range primes(64) {
		if i == 3 {
			break
		}
	}
}

func BenchmarkSum(b *testing.B) {
	table := Make()
	text := sample(45)
	for b.Loop() {
		Sum(table, text)
	}
}
