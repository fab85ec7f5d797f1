package smt

import (
	"encoding/hex"
	"fmt"
	"maps"
	"math/bits"
	"slices"
	"strconv"
	"strings"
	"testing"

	"annalist/sha"
)

// The oracle says what the chapter's words say, of sha alone: nothing of this package is called in it.

var table = sha.Make()

// h is H of the parts, one behind the other.
func h(parts ...string) string {
	return sha.Sum(table, strings.Join(parts, ""))
}

// held is a key with its value, and its path as 256 letters 0 or 1.
type held struct {
	path, key, value string
}

// letters answers the bits of bytes, each byte's highest first.
func letters(b string) string {
	var s strings.Builder
	for i := range len(b) {
		fmt.Fprintf(&s, "%08b", b[i])
	}
	return s.String()
}

// packed answers the bytes whose bits the letters are.
func packed(s string) string {
	var b []byte
	for ; len(s) > 0; s = s[8:] {
		x, err := strconv.ParseUint(s[:8], 2, 8)
		if err != nil {
			panic(err)
		}
		b = append(b, byte(x))
	}
	return string(b)
}

func pathWant(key string) string {
	return letters(h("K", key))
}

func heldOf(m Map) []held {
	var l []held
	for key, value := range m {
		l = append(l, held{pathWant(key), key, value})
	}
	return l
}

// emptyWant has the empty roots of all depths.
var emptyWant = func() [257]string {
	var l [257]string
	l[256] = h("E")
	for d := 255; d >= 0; d-- {
		l[d] = h("N", l[d+1], l[d+1])
	}
	return l
}()

func valueWant(key, value string) string {
	return h("V", string([]byte{byte(len(key))}), key, value)
}

// rootWant is the root of those whose paths begin so.
func rootWant(begin string, all []held) string {
	var l []held
	for _, x := range all {
		if strings.HasPrefix(x.path, begin) {
			l = append(l, x)
		}
	}
	if len(l) == 0 {
		return emptyWant[len(begin)]
	}
	if len(begin) < 256 {
		return h("N", rootWant(begin+"0", l), rootWant(begin+"1", l))
	}
	first := l[0]
	for _, x := range l {
		if x.key < first.key {
			first = x
		}
	}
	return valueWant(first.key, first.value)
}

// proofWant is the proof of a path.
func proofWant(path string, l []held) string {
	flags, roots := "", ""
	for d := 1; d <= 256; d++ {
		other := "0"
		if path[d-1] == '0' {
			other = "1"
		}
		if r := rootWant(path[:d-1]+other, l); r != emptyWant[d] {
			flags += "1"
			roots += r
		} else {
			flags += "0"
		}
	}
	return packed(flags) + roots
}

// madeWant answers the root that roots beside a path, one a depth, make with what is at its end.
func madeWant(path, own string, beside []string) string {
	if len(path) == 0 {
		return own
	}
	below := madeWant(path[1:], own, beside[1:])
	if path[0] == '0' {
		return h("N", below, beside[0])
	}
	return h("N", beside[0], below)
}

// besideWant answers a proof's roots beside the path, and whether it has just as many as its bits tell.
func besideWant(proof string) ([]string, bool) {
	if len(proof) < 32 {
		return nil, false
	}
	flags, rest := letters(proof[:32]), proof[32:]
	if len(rest) != 32*strings.Count(flags, "1") {
		return nil, false
	}
	var beside []string
	for d := 1; d <= 256; d++ {
		if flags[d-1] == '0' {
			beside = append(beside, emptyWant[d])
			continue
		}
		beside = append(beside, rest[:32])
		rest = rest[32:]
	}
	return beside, true
}

func verifyWant(root, key, value string, there bool, proof string) bool {
	beside, ok := besideWant(proof)
	if !ok {
		return false
	}
	own := emptyWant[256]
	if there {
		own = valueWant(key, value)
	}
	return madeWant(pathWant(key), own, beside) == root
}

// near and far are keys whose paths begin with the same 36 bits.
const near, far = "58387", "183074"

// sampleMaps answers maps with ordinary keys, and with those at the edges.
func sampleMaps() []Map {
	long := strings.Repeat("k", 255)
	return []Map{
		nil,
		{},
		{"": ""},
		{"": "of no key"},
		{"a": "1"},
		{"a": ""},
		{"a": "1", "b": "2"},
		{"a": "1", "b": "1"},
		{"ab": "c", "a": "bc"},
		{"": "abc", "a": "bc", "ab": "c", "abc": ""},
		{long: "long"},
		{long: "", long[:254]: "k", "a": "1"},
		{strings.Repeat("\xff", 255): strings.Repeat("\x00", 1000), "\x00": "\xff\xfe"},
		{near: "near"},
		{near: "near", far: "far"},
		{near: "near", far: "far", "a": "1", "b": "2"},
		numbered(20),
	}
}

// numbered answers a map of n keys.
func numbered(n int) Map {
	m := Map{}
	for i := range n {
		m["key "+strconv.Itoa(i)] = "value " + strconv.Itoa(i)
	}
	return m
}

// sampleKeys answers the map's keys, and some that are asked for besides.
func sampleKeys(m Map) []string {
	l := slices.Collect(maps.Keys(m))
	l = append(l, "", "a", "b", "c", "key 7", "key 20", near, far, strings.Repeat("k", 255), strings.Repeat("k", 254), "\x00", "\xff")
	slices.Sort(l)
	return slices.Compact(l)
}

// changed answers b with the byte at that place otherwise.
func changed(b string, at int) string {
	x := []byte(b)
	x[at] ^= 1 << (at % 8)
	return string(x)
}

// flip answers the proof with its bit of the depth i+1 otherwise.
func flip(proof string, i int) string {
	x := []byte(proof)
	x[i/8] ^= 1 << (7 - i%8)
	return string(x)
}

const noughts = "\x00\x00\x00\x00\x00\x00\x00\x00\x00\x00\x00\x00\x00\x00\x00\x00\x00\x00\x00\x00\x00\x00\x00\x00\x00\x00\x00\x00\x00\x00\x00\x00"

// The tests of P5.1: roots.

// TestKnownRootsAndProofs holds roots, and digests of proofs, against such as were reckoned elsewhere.
func TestKnownRootsAndProofs(t *testing.T) {
	long := strings.Repeat("k", 255)
	for _, c := range []struct {
		m         Map
		root, key string
		size      int
		proof     string
	}{
		{nil, "1a739bb1e8c6bb45c5c8218b5ce5596620a6e1a2f7364b687cca4b5ac650a96c", "a", 32, "66687aadf862bd776c8fc18b8e9f8e20089714856ee233b3902a591d0d5f2925"},
		{Map{"": ""}, "9061c4d2079122ec95b076e5cafd02da6ac456290ceb4f923a013b7bb421f972", long, 64, "5cc0691b8b901e07875ae3154ad5b9626ff216e6587402c31389b878cf88157c"},
		{Map{"a": "1"}, "55473fec30ef0b12354b684311479116fc39d09f77346d448f63cd5637b71eec", "c", 64, "ccd7c65f8582202ae6b71b144f6eaade64543f3ec5b2f170a93614c293f6918d"},
		{Map{"a": "1", "b": "2"}, "77d4d4d104a7d9737d3da9ef4a837e9d32b041a4c4351a4f5da07f76c690e17a", "c", 96, "14168da035c2b8e6797c8dd75c493539ed85638d1a968d45594423128f8be8c1"},
		{Map{"a": "1", "b": "2", long: "long"}, "9a5e48b0f0c8a094071439d1ec8fbd68ad62127eed0082fee054327ccbdb746a", long, 96, "5ef55e81e1d186c1dfa007761804482e7021698c975e9b021e04b445facbcef6"},
		{numbered(20), "89054829a9aa2fca4315542d110f27def8e511393fd086ccb5953aba0241f7c0", "key 7", 256, "518eb879d4f864ee5e2661cdc65c02ecf0a1ffcd7720845be24700e0205e48a6"},
	} {
		if r := hex.EncodeToString([]byte(Root(table, c.m))); r != c.root {
			t.Errorf("root of %d keys: %s, want %s", len(c.m), r, c.root)
		}
		p := Prove(table, c.m, c.key)
		if d := hex.EncodeToString([]byte(h(p))); len(p) != c.size || d != c.proof {
			t.Errorf("proof among %d keys: %d bytes, %s, want %d, %s", len(c.m), len(p), d, c.size, c.proof)
		}
	}
}

func TestRootOfNone(t *testing.T) {
	if Root(table, nil) != emptyWant[0] || Root(table, Map{}) != emptyWant[0] {
		t.Errorf("%x, %x", Root(table, nil), Root(table, Map{}))
	}
}

func TestRootOfEachMap(t *testing.T) {
	for i, m := range sampleMaps() {
		if r := Root(table, m); r != rootWant("", heldOf(m)) || len(r) != 32 {
			t.Errorf("map %d: %x", i, r)
		}
	}
}

func TestRootOfEachNumberOfKeys(t *testing.T) {
	for _, n := range []int{1, 2, 3, 4, 5, 7, 8, 9, 15, 16, 17, 33, 64, 100} {
		if r := Root(table, numbered(n)); r != rootWant("", heldOf(numbered(n))) {
			t.Errorf("of %d: %x", n, r)
		}
	}
}

func TestRootTellsMapsApart(t *testing.T) {
	seen := map[string]int{}
	for i, m := range sampleMaps()[1:] {
		r := Root(table, m)
		if before, ok := seen[r]; ok {
			t.Errorf("the maps %d and %d have one root", before, i)
		}
		seen[r] = i
	}
}

// The tests of P5.1: paths that part late, which no keys are known for.

// sameUpTo answers entries at n paths of which each begins as the first one does, for one bit less than the next.
func sameUpTo(n int) []held {
	path := pathWant("deep")
	l := []held{{path, "deep", "first"}}
	for i := 255; len(l) < n; i-- {
		l = append(l, held{turned(path, i), "key " + strconv.Itoa(i), "value " + strconv.Itoa(i)})
	}
	return l
}

// turned answers the path with the bit i otherwise.
func turned(path string, i int) string {
	return letters(flip(packed(path), i))
}

// entriesOf answers the entries as they are in a map with these paths.
func entriesOf(l []held) []entry {
	var made []entry
	for _, x := range l {
		made = append(made, entry{packed(x.path), x.key, x.value})
	}
	slices.SortFunc(made, order)
	return made
}

func TestPathsThatPartLate(t *testing.T) {
	made := plant(table)
	for _, n := range []int{1, 2, 3, 9, 17, 30} {
		l := sameUpTo(n)
		if r := made.root(0, entriesOf(l)); r != rootWant("", l) {
			t.Errorf("root of %d: %x", n, r)
		}
		for _, x := range append(l, held{path: turned(l[0].path, 200)}, held{path: turned(l[0].path, 0)}) {
			if p := made.prove(packed(x.path), entriesOf(l)); p != proofWant(x.path, l) {
				t.Errorf("proof of %q among %d: %x", x.key, n, p)
			}
		}
	}
}

func TestOneKeyAtEachBit(t *testing.T) {
	made := plant(table)
	for i := range 256 {
		path := strings.Repeat("0", i) + "1" + strings.Repeat("0", 255-i)
		l := []held{{path, "key", "value"}}
		if r := made.root(0, entriesOf(l)); r != madeWant(path, valueWant("key", "value"), emptyWant[1:]) {
			t.Errorf("root with the bit %d: %x", i, r)
		}
		p := made.prove(noughts, entriesOf(l))
		if len(p) != 64 || p[:32] != packed(path) {
			t.Errorf("proof beside the bit %d: %x", i, p)
		}
	}
}

func TestOfOnePathTheFirstKeyStands(t *testing.T) {
	made := plant(table)
	path := pathWant("one")
	keys := []string{"a", "ab", "b", "\x7f", "\x80", "\xff"}
	for first := range keys {
		var l []held
		for _, key := range keys[first:] {
			l = append(l, held{path, key, "value of " + key})
		}
		l = append(l, held{turned(path, 255), "", "beside"}, held{turned(path, 0), "0", "apart"})
		want := rootWant("", []held{l[0], l[len(l)-2], l[len(l)-1]})
		for range len(l) {
			l = append(l[1:], l[0])
			if r := made.root(0, entriesOf(l)); r != want || r != rootWant("", l) {
				t.Errorf("%q and those behind: %x, want %x", keys[first], r, want)
			}
			if p := made.prove(packed(path), entriesOf(l)); p != proofWant(path, l) {
				t.Errorf("%q and those behind: another proof", keys[first])
			}
		}
	}
}

// The tests of P5.1: proofs.

func TestProofOfAnEmptyMap(t *testing.T) {
	for _, key := range sampleKeys(nil) {
		if a, b := Prove(table, nil, key), Prove(table, Map{}, key); a != noughts || b != noughts {
			t.Errorf("%q: %x, %x", key, a, b)
		}
	}
}

func TestProofOfTheOnlyKey(t *testing.T) {
	for _, key := range sampleKeys(nil) {
		m := Map{key: "value"}
		if p := Prove(table, m, key); p != noughts {
			t.Errorf("%q: %x", key, p)
		}
	}
}

func TestProofOfEachKey(t *testing.T) {
	for i, m := range sampleMaps() {
		for _, key := range sampleKeys(m) {
			if p := Prove(table, m, key); p != proofWant(pathWant(key), heldOf(m)) {
				t.Errorf("%q in the map %d: %x", key, i, p)
			}
		}
	}
}

func TestProofDoesNotHangOnTheKeysOwnValue(t *testing.T) {
	m := numbered(10)
	p := Prove(table, m, "key 3")
	m["key 3"] = "another"
	if Prove(table, m, "key 3") != p {
		t.Error("another value, another proof")
	}
	delete(m, "key 3")
	if Prove(table, m, "key 3") != p {
		t.Error("no value, another proof")
	}
}

// TestEachTimeTheSame is of R5, and of the order in which a map is gone through.
func TestEachTimeTheSame(t *testing.T) {
	m := numbered(30)
	before := maps.Clone(m)
	root, proof := Root(table, m), Prove(table, m, "key 11")
	for range 10 {
		if Root(table, m) != root || Prove(table, m, "key 11") != proof {
			t.Fatal("another answer")
		}
	}
	if !maps.Equal(m, before) {
		t.Error("the map was changed")
	}
}

// The tests of P5.2: proofs hold.

func TestEachProofThatIsMadeHolds(t *testing.T) {
	for i, m := range append(sampleMaps(), numbered(64)) {
		root := Root(table, m)
		for _, key := range sampleKeys(m) {
			value, there := m[key]
			p := Prove(table, m, key)
			if !Verify(table, root, key, value, there, p) {
				t.Errorf("%q in the map %d", key, i)
			}
			if Verify(table, root, key, value, !there, p) {
				t.Errorf("%q in the map %d, there told as not there, or not there as there", key, i)
			}
		}
	}
}

// The tests of P5.1: Verify.

// cases hands on proofs that hold, of keys that are there and that aren't.
func cases(hand func(root, key, value string, there bool, proof string)) {
	long := strings.Repeat("k", 255)
	for _, c := range []struct {
		m   Map
		key string
	}{
		{nil, "a"},
		{nil, ""},
		{Map{"a": "1"}, "a"},
		{Map{"a": ""}, "a"},
		{Map{"a": "1"}, "b"},
		{Map{"a": "1", "b": "2"}, "a"},
		{Map{"a": "1", "b": "2"}, "c"},
		{Map{near: "near", far: "far", "a": "1"}, near},
		{Map{far: "far", "a": "1"}, near},
		{Map{long: "long", "a": "1", "b": "2"}, long},
		{Map{"a": "1", "b": "2"}, long},
	} {
		l := heldOf(c.m)
		value, there := c.m[c.key]
		hand(rootWant("", l), c.key, value, there, proofWant(pathWant(c.key), l))
	}
}

func TestVerifyOfRightProofs(t *testing.T) {
	cases(func(root, key, value string, there bool, proof string) {
		if !Verify(table, root, key, value, there, proof) || !verifyWant(root, key, value, there, proof) {
			t.Errorf("%q", key)
		}
	})
}

func TestVerifyOfProofsTooShort(t *testing.T) {
	cases(func(root, key, value string, there bool, proof string) {
		for n := range 32 {
			for _, p := range []string{proof[:n], noughts[:n], strings.Repeat("\xff", n)} {
				if Verify(table, root, key, value, there, p) {
					t.Errorf("%q, %d bytes", key, n)
				}
			}
		}
	})
}

func TestVerifyOfTooFewOrTooManyRoots(t *testing.T) {
	cases(func(root, key, value string, there bool, proof string) {
		for n := 32; n < len(proof); n++ {
			if Verify(table, root, key, value, there, proof[:n]) || Verify(table, root, key, value, there, proof[:32]+proof[len(proof)-n+32:]) {
				t.Errorf("%q, %d bytes of %d", key, n, len(proof))
			}
		}
		for _, more := range []string{"\x00", "x", noughts[:31], noughts, h("more"), emptyWant[256], noughts + noughts, strings.Repeat(noughts, 256)} {
			if Verify(table, root, key, value, there, proof+more) || Verify(table, root, key, value, there, proof[:32]+more+proof[32:]) {
				t.Errorf("%q, %d bytes more", key, len(more))
			}
		}
	})
}

func TestVerifyOfOtherBits(t *testing.T) {
	cases(func(root, key, value string, there bool, proof string) {
		for i := range 256 {
			p := flip(proof, i)
			if Verify(table, root, key, value, there, p) {
				t.Errorf("%q, another bit %d, as many roots as before", key, i)
			}
			if len(p) > 32 && bits.OnesCount8(p[i/8]) < bits.OnesCount8(proof[i/8]) && Verify(table, root, key, value, there, p[:len(p)-32]) {
				t.Errorf("%q, another bit %d, one root fewer", key, i)
			}
			if bits.OnesCount8(p[i/8]) > bits.OnesCount8(proof[i/8]) && Verify(table, root, key, value, there, p+h("more")) {
				t.Errorf("%q, another bit %d, one root more", key, i)
			}
		}
	})
}

func TestVerifyOfABitAtAnotherDepth(t *testing.T) {
	m := Map{near: "near", far: "far", "a": "1"}
	root, proof := Root(table, m), Prove(table, m, near)
	for from := range 256 {
		if flip(proof, from)[from/8] > proof[from/8] {
			continue
		}
		for to := range 256 {
			if p := flip(flip(proof, from), to); Verify(table, root, near, "near", true, p) != (p == proof) {
				t.Errorf("from %d to %d", from, to)
			}
		}
	}
}

func TestVerifyWithAnyByteOtherwise(t *testing.T) {
	cases(func(root, key, value string, there bool, proof string) {
		for at := range proof {
			if Verify(table, root, key, value, there, changed(proof, at)) {
				t.Errorf("%q, the byte %d of the proof", key, at)
			}
		}
		for at := range root {
			if Verify(table, changed(root, at), key, value, there, proof) {
				t.Errorf("%q, the byte %d of the root", key, at)
			}
		}
		if n := len(proof); n > 64 && Verify(table, root, key, value, there, proof[:32]+proof[64:]+proof[32:64]) {
			t.Errorf("%q, the first root put last", key)
		}
	})
}

func TestVerifyOfAnotherValue(t *testing.T) {
	cases(func(root, key, value string, there bool, proof string) {
		for _, other := range []string{"", "0", "1", "2", value + "\x00", value + "x", key, strings.Repeat("v", 70000)} {
			if want := there && other == value; Verify(table, root, key, other, true, proof) != want {
				t.Errorf("%q, the value %.20q: %v", key, other, !want)
			}
		}
		if there && Verify(table, root, key, value, false, proof) || there && Verify(table, root, key, "", false, proof) {
			t.Errorf("%q is there and was told as not there", key)
		}
	})
}

// TestVerifyOfAValueThatIsNotThere: a key that isn't there has the empty root, whatever value stands beside it.
func TestVerifyOfAValueThatIsNotThere(t *testing.T) {
	cases(func(root, key, value string, there bool, proof string) {
		for _, other := range []string{"", "x", strings.Repeat("v", 300)} {
			if Verify(table, root, key, other, false, proof) == there {
				t.Errorf("%q, the value %.20q: %v", key, other, there)
			}
		}
	})
}

func TestVerifyOfAnotherKey(t *testing.T) {
	m := numbered(12)
	root := Root(table, m)
	for key := range m {
		p := Prove(table, m, key)
		for other, value := range m {
			if Verify(table, root, other, value, true, p) != (other == key) {
				t.Errorf("the proof of %q, for %q", key, other)
			}
			if Verify(table, root, other, "", false, p) {
				t.Errorf("the proof of %q, for none of %q", key, other)
			}
		}
		for _, other := range []string{"", key[:len(key)-1], key + "\x00", "x" + key} {
			if Verify(table, root, other, m[key], true, p) {
				t.Errorf("the proof of %q, for %q", key, other)
			}
		}
	}
}

func TestVerifyUnderAnotherRoot(t *testing.T) {
	cases(func(root, key, value string, there bool, proof string) {
		for _, other := range []string{"", noughts, root[:31], root + "\x00", root + root, h(root), emptyWant[0], emptyWant[1], emptyWant[256], valueWant(key, value)} {
			if Verify(table, other, key, value, there, proof) != (other == root) {
				t.Errorf("%q under %x", key, other)
			}
		}
	})
}

// TestVerifyOfRootsToldAsEmpty: no bit is told, so that the key's own root climbs among empty ones alone.
func TestVerifyOfRootsToldAsEmpty(t *testing.T) {
	for _, key := range sampleKeys(nil) {
		path := pathWant(key)
		if !Verify(table, emptyWant[0], key, "", false, noughts) || Verify(table, emptyWant[0], key, "", true, noughts) {
			t.Errorf("%q in no map", key)
		}
		alone := madeWant(path, valueWant(key, "value"), emptyWant[1:])
		if !Verify(table, alone, key, "value", true, noughts) || Verify(table, alone, key, "", false, noughts) || Verify(table, alone, key, "valu", true, noughts) {
			t.Errorf("%q alone", key)
		}
	}
}

// TestVerifyOfRootsAtAllDepths: as many roots as a proof can have.
func TestVerifyOfRootsAtAllDepths(t *testing.T) {
	var beside []string
	for d := range 256 {
		beside = append(beside, h("root "+strconv.Itoa(d)))
	}
	proof := strings.Repeat("\xff", 32) + strings.Join(beside, "")
	for _, key := range []string{"", "a", near, strings.Repeat("k", 255)} {
		there, none := madeWant(pathWant(key), valueWant(key, "v"), beside), madeWant(pathWant(key), emptyWant[256], beside)
		if !Verify(table, there, key, "v", true, proof) || !Verify(table, none, key, "", false, proof) {
			t.Errorf("%q doesn't hold", key)
		}
		if Verify(table, none, key, "v", true, proof) || Verify(table, there, key, "", false, proof) || Verify(table, there, key, "w", true, proof) {
			t.Errorf("%q holds as what it isn't", key)
		}
		for _, p := range []string{proof + noughts, proof[:len(proof)-32], proof[:32], changed(proof, len(proof)-1), changed(proof, 32), changed(proof, 31)} {
			if Verify(table, there, key, "v", true, p) {
				t.Errorf("%q with a spoilt proof of %d bytes", key, len(p))
			}
		}
	}
}

// TestVerifyOfEmptyRootsWrittenOut: the words ask that as many roots come as are told, and that they make the root.
func TestVerifyOfEmptyRootsWrittenOut(t *testing.T) {
	for _, i := range []int{0, 1, 7, 8, 100, 255} {
		proof := flip(noughts, i) + emptyWant[i+1]
		if !Verify(table, emptyWant[0], "a", "", false, proof) {
			t.Errorf("the empty root of the depth %d", i+1)
		}
		if Verify(table, emptyWant[0], "a", "", false, flip(noughts, i)+emptyWant[i]) {
			t.Errorf("another depth's empty root at the depth %d", i+1)
		}
	}
}

// TestKeysThatAreTooLong is of R1: nothing is promised of them but that calls end.
func TestKeysThatAreTooLong(t *testing.T) {
	for _, n := range []int{256, 257, 511, 70000} {
		key := strings.Repeat("k", n)
		m := Map{key: "v", "a": "1"}
		p := Prove(table, m, key)
		Verify(table, Root(table, m), key, "v", true, p)
		if len(p) < 32 {
			t.Errorf("%d bytes: %x", n, p)
		}
	}
}

// TestPart is of the chapter's way: keys are parted by functions of their paths' bits.
func TestPart(t *testing.T) {
	l := entriesOf(heldOf(numbered(40)))
	for i := range 256 {
		bit := bitAt(i)
		for _, x := range l {
			if bit(x.path) != (letters(x.path)[i] == '1') {
				t.Errorf("the bit %d of %x: %v", i, x.path, bit(x.path))
			}
		}
	}
	left, right := part(l, bitAt(0))
	if len(left)+len(right) != len(l) || len(left) == 0 || len(right) == 0 {
		t.Errorf("%d and %d of %d", len(left), len(right), len(l))
	}
	if slices.ContainsFunc(left, func(x entry) bool { return x.path[0] >= 0x80 }) || slices.ContainsFunc(right, func(x entry) bool { return x.path[0] < 0x80 }) {
		t.Error("on the wrong side")
	}
	if left, right = part(nil, bitAt(255)); len(left) != 0 || len(right) != 0 {
		t.Error("of none some")
	}
}

func BenchmarkRoot(b *testing.B) {
	m := numbered(64)
	for b.Loop() {
		Root(table, m)
	}
}
