package clash

import (
	"encoding/hex"
	"fmt"
	"maps"
	"slices"
	"strconv"
	"strings"
	"testing"

	"annalist/collide"
	"annalist/sha"
	"annalist/smt"
)

// The oracle says what the chapter's words, and layer 5's, say, of a hasher alone: nothing of this package is called in it.

var table = sha.Make()

// sum is an ordinary hasher.
func sum(b string) string {
	return sha.Sum(table, b)
}

// alike is a hasher that tells the same of all.
func alike(string) string {
	return noughts
}

// weak is a hasher that has only so many things to tell.
func weak(many int) collide.Hasher {
	return func(b string) string {
		return thing(int(sum(b)[0]) % many)
	}
}

// thing is one of those that a weak hasher has to tell.
func thing(i int) string {
	return strings.Repeat(string([]byte{byte(0x35 * i)}), 32)
}

// planted is an ordinary hasher, but of each pair's texts it tells the same: what it would tell of the first one, or of E, on which all empty roots hang.
func planted(pairs ...collide.Pair) collide.Hasher {
	return func(b string) string {
		for _, p := range pairs {
			if p.B == "E" {
				p.A, p.B = p.B, p.A
			}
			if b == p.B {
				b = p.A
			}
		}
		return sum(b)
	}
}

const noughts = "\x00\x00\x00\x00\x00\x00\x00\x00\x00\x00\x00\x00\x00\x00\x00\x00\x00\x00\x00\x00\x00\x00\x00\x00\x00\x00\x00\x00\x00\x00\x00\x00"

// letters answers the bits of bytes, each byte's highest first.
func letters(b string) string {
	var s strings.Builder
	for i := range len(b) {
		fmt.Fprintf(&s, "%08b", b[i])
	}
	return s.String()
}

// packed answers the bytes whose bits the letters are.
func packed(s string) string {
	var b []byte
	for ; len(s) > 0; s = s[8:] {
		x, err := strconv.ParseUint(s[:8], 2, 8)
		if err != nil {
			panic(err)
		}
		b = append(b, byte(x))
	}
	return string(b)
}

// emptyWant has the hasher's empty roots of all depths.
func emptyWant(h collide.Hasher) [257]string {
	var l [257]string
	l[256] = h("E")
	for d := 255; d >= 0; d-- {
		l[d] = h("N" + l[d+1] + l[d+1])
	}
	return l
}

// besideWant answers a proof's roots beside a path, the depth 1's first, and whether it has just as many as its bits tell.
func besideWant(h collide.Hasher, proof string) ([]string, bool) {
	if len(proof) < 32 {
		return nil, false
	}
	flags, rest := letters(proof[:32]), proof[32:]
	if len(rest) != 32*strings.Count(flags, "1") {
		return nil, false
	}
	empty := emptyWant(h)
	var beside []string
	for d := 1; d <= 256; d++ {
		if flags[d-1] == '0' {
			beside = append(beside, empty[d])
			continue
		}
		beside = append(beside, rest[:32])
		rest = rest[32:]
	}
	return beside, true
}

// madeWant answers the root that roots beside a path make with what is at its end, and the texts that are told on the way, from that one up.
func madeWant(h collide.Hasher, path, own string, beside []string) (string, []string) {
	if len(path) == 0 {
		return h(own), []string{own}
	}
	below, texts := madeWant(h, path[1:], own, beside[1:])
	text := "N" + below + beside[0]
	if path[0] == '1' {
		text = "N" + beside[0] + below
	}
	return h(text), append(texts, text)
}

// answerWant answers the root under which the answer holds, the texts that are told on its way, and whether there is such a root.
func answerWant(h collide.Hasher, key string, a Answer) (string, []string, bool) {
	if len(key) > 255 || len(a.Value) > 255 || !a.There && len(a.Value) > 0 {
		return "", nil, false
	}
	beside, ok := besideWant(h, a.Proof)
	if !ok {
		return "", nil, false
	}
	own := "E"
	if a.There {
		own = "V" + string([]byte{byte(len(key))}) + key + a.Value
	}
	root, texts := madeWant(h, letters(h("K"+key)), own, beside)
	return root, texts, true
}

// mapRootWant is the root, of whatever hasher, of the keys whose paths begin so, of which no two have one path.
func mapRootWant(h collide.Hasher, empty [257]string, begin string, m map[string]string) string {
	mine := map[string]string{}
	for key, value := range m {
		if strings.HasPrefix(letters(h("K"+key)), begin) {
			mine[key] = value
		}
	}
	if len(mine) == 0 {
		return empty[len(begin)]
	}
	if len(begin) < 256 {
		return h("N" + mapRootWant(h, empty, begin+"0", mine) + mapRootWant(h, empty, begin+"1", mine))
	}
	for key, value := range mine {
		return h("V" + string([]byte{byte(len(key))}) + key + value)
	}
	return ""
}

// mapProofWant is the proof, of whatever hasher, of the key among these.
func mapProofWant(h collide.Hasher, m map[string]string, key string) string {
	path, empty := letters(h("K"+key)), emptyWant(h)
	flags, roots := "", ""
	for d := 1; d <= 256; d++ {
		other := map[string]string{"0": "1", "1": "0"}[path[d-1:d]]
		if r := mapRootWant(h, empty, path[:d-1]+other, m); r != empty[d] {
			flags += "1"
			roots += r
		} else {
			flags += "0"
		}
	}
	return packed(flags) + roots
}

// near and far are keys whose paths begin with the same 36 bits.
const near, far = "58387", "183074"

var longKey, longValue = strings.Repeat("k", 255), strings.Repeat("v", 255)

// sampleMaps answers maps with ordinary keys, and with those at the edges.
func sampleMaps() []smt.Map {
	return []smt.Map{
		nil,
		{},
		{"": ""},
		{"": "of no key"},
		{"a": "1"},
		{"a": ""},
		{"a": "1", "b": "2"},
		{"ab": "c", "a": "bc"},
		{"": "abc", "a": "bc", "ab": "c", "abc": ""},
		{longKey: longValue},
		{longKey: "", longKey[:254]: "k", "a": longValue},
		{strings.Repeat("\xff", 255): strings.Repeat("\x00", 255), "\x00": "\xff\xfe"},
		{near: "near"},
		{near: "near", far: "far", "a": "1", "b": "2"},
		numbered(40),
	}
}

// numbered answers a map of n keys.
func numbered(n int) smt.Map {
	m := smt.Map{}
	for i := range n {
		m["key "+strconv.Itoa(i)] = "value " + strconv.Itoa(i)
	}
	return m
}

// sampleKeys answers the map's keys, and some that are asked for besides.
func sampleKeys(m smt.Map) []string {
	l := slices.Collect(maps.Keys(m))
	l = append(l, "", "a", "b", "c", "key 7", "key 40", near, far, longKey, longKey[:254], "\x00", "\xff")
	slices.Sort(l)
	return slices.Compact(l)
}

// answerOf is layer 5's answer for the key, under an ordinary hasher.
func answerOf(m smt.Map, key string) Answer {
	value, there := m[key]
	return Answer{there, value, smt.Prove(table, m, key)}
}

// known answers the bytes that such letters are written for.
func known(x string) string {
	b, err := hex.DecodeString(x)
	if err != nil {
		panic(err)
	}
	return string(b)
}

// fullProof answers a proof with these bits, and as many roots as they tell, each one unlike the others.
func fullProof(flags, name string) string {
	proof := flags
	for i, bit := range letters(flags) {
		if bit == '1' {
			proof += sum(name + " " + strconv.Itoa(i))
		}
	}
	return proof
}

// ones tells of roots at all 256 depths.
var ones = strings.Repeat("\xff", 32)

// changed answers b with the byte at that place otherwise.
func changed(b string, at int) string {
	x := []byte(b)
	x[at] ^= 1 << (at % 8)
	return string(x)
}

// flip answers the proof with its bit of the depth i+1 otherwise.
func flip(proof string, i int) string {
	x := []byte(proof)
	x[i/8] ^= 1 << (7 - i%8)
	return string(x)
}

// sampleHashers answers an ordinary hasher, and some that collide.
func sampleHashers() []collide.Hasher {
	return []collide.Hasher{sum, alike, weak(2), weak(3), planted(collide.Pair{A: "E", B: "V\x01av"})}
}

// sampleProofs answers such as are well formed, with few and with many roots.
func sampleProofs() []string {
	return []string{
		noughts,
		fullProof(ones, "root"),
		fullProof(strings.Repeat("\x55", 32), "root"),
		fullProof("\x80"+noughts[1:], "root"),
		fullProof(noughts[1:]+"\x01", "root"),
		fullProof(noughts[:15]+"\x01\x80"+noughts[:15], "root"),
		fullProof(sum("bits"), "root"),
	}
}

// The tests of P9.1: Path.

func TestKnownPaths(t *testing.T) {
	for key, want := range map[string]string{
		"":            "86be9a55762d316a3026c2836d044f5fc76e34da10e1b45feee5f18be7edb177",
		"a":           "7d57fd69f38d7b9486ee83c39ff8c5a94f999c718343668b990ba440a4a35bff",
		longKey:       "e6c27e28bb49b02ce247431e2a2574d4d605e720114d8501042c38ec68681009",
		longKey + "k": "75676b07d1ae9c28f30424627a51ed9a83d33a45ded6b3c46af91149826e43fa",
	} {
		if p := Path(sum, key); p != known(want) {
			t.Errorf("%.3q, %d bytes: %x", key, len(key), p)
		}
	}
}

func TestPathIsWhatTheHasherTells(t *testing.T) {
	for i, h := range sampleHashers() {
		for _, key := range append(sampleKeys(nil), "K", "\xff\xfe", strings.Repeat("k", 70000)) {
			if p := Path(h, key); p != h("K"+key) {
				t.Errorf("hasher %d, %.9q: %x", i, key, p)
			}
		}
	}
}

// The tests of P9.1: Root.

func TestKnownRoots(t *testing.T) {
	odd := strings.Repeat("\x55", 32)
	for _, c := range []struct {
		key  string
		a    Answer
		want string
	}{
		{"a", Answer{false, "", noughts}, "1a739bb1e8c6bb45c5c8218b5ce5596620a6e1a2f7364b687cca4b5ac650a96c"},
		{"", Answer{true, "", noughts}, "9061c4d2079122ec95b076e5cafd02da6ac456290ceb4f923a013b7bb421f972"},
		{"a", Answer{true, "1", noughts}, "55473fec30ef0b12354b684311479116fc39d09f77346d448f63cd5637b71eec"},
		{"a", Answer{true, "", noughts}, "7a79cf12c8f8e0184f6ed18840d5e14c9d3169f95facef7e4143eec805cfce10"},
		{longKey, Answer{true, longValue, noughts}, "f4acf7f6f452e33bf61f991c6e8bdefb69727e5d2107a09585b306b273445807"},
		{"b", answerOf(smt.Map{"a": "1", "b": "2"}, "b"), "77d4d4d104a7d9737d3da9ef4a837e9d32b041a4c4351a4f5da07f76c690e17a"},
		{"c", answerOf(smt.Map{"a": "1", "b": "2", longKey: longValue}, "c"), "ff57fd2cee894e4857a5586d5109a22dc488cbdd7a3f5dfc54cfc665fdf5e449"},
		{"a", Answer{true, "v", fullProof(ones, "root")}, "ecd82e22836130685431f29fc85e79158cd7dfb47d6962eee3ddd419c89a9c07"},
		{"a", Answer{false, "", fullProof(ones, "root")}, "4b2f00761c684768b78cf0cc559e98873c1db49113e0c6b910174cc4e48d4881"},
		{"a", Answer{true, "v", fullProof(odd, "root")}, "62615524fff428b23baddb147b41d7e95927185bf2aeb751dae73e40a407fd3f"},
	} {
		if r, ok := Root(sum, c.key, c.a); !ok || r != known(c.want) {
			t.Errorf("%.3q, %v, %.3q, %d bytes: %x, %v", c.key, c.a.There, c.a.Value, len(c.a.Proof), r, ok)
		}
	}
}

// TestRootOfLayer5sProofs: of each key that is there, and of keys that aren't, the answer holds under the map's root, and its opposite doesn't.
func TestRootOfLayer5sProofs(t *testing.T) {
	for i, m := range sampleMaps() {
		root := smt.Root(table, m)
		for _, key := range sampleKeys(m) {
			a := answerOf(m, key)
			if r, ok := Root(sum, key, a); !ok || r != root {
				t.Errorf("%.9q in the map %d: %x, %v", key, i, r, ok)
			}
			for _, other := range []Answer{{true, a.Value + "x", a.Proof}, {!a.There, "", a.Proof}} {
				if len(other.Value) > 255 {
					continue
				}
				if r, ok := Root(sum, key, other); !ok || r == root || !smt.Verify(table, r, key, other.Value, other.There, other.Proof) {
					t.Errorf("%.9q in the map %d, told otherwise: %x, %v", key, i, r, ok)
				}
			}
		}
	}
}

func TestRootOfWhateverRootsAndHashers(t *testing.T) {
	for i, h := range sampleHashers() {
		for j, proof := range sampleProofs() {
			for _, key := range []string{"", "a", near, longKey} {
				for _, a := range []Answer{{false, "", proof}, {true, "", proof}, {true, "v", proof}, {true, longValue, proof}} {
					want, _, _ := answerWant(h, key, a)
					if r, ok := Root(h, key, a); !ok || r != want {
						t.Errorf("hasher %d, proof %d, %.9q, %v, %.9q: %x, %v, want %x", i, j, key, a.There, a.Value, r, ok, want)
					}
				}
			}
		}
	}
}

// TestRootOfABitAtEachDepth: one root only, at each depth of a path.
func TestRootOfABitAtEachDepth(t *testing.T) {
	for i := range 256 {
		a := Answer{true, "v", fullProof(flip(noughts, i), "root")}
		want, _, _ := answerWant(sum, "a", a)
		if r, ok := Root(sum, "a", a); !ok || r != want {
			t.Errorf("depth %d: %x, %v, want %x", i+1, r, ok, want)
		}
	}
}

// TestRootOfEmptyRootsWrittenOut: bits that tell of a root which is the empty one are as those that don't, if the root comes.
func TestRootOfEmptyRootsWrittenOut(t *testing.T) {
	for _, h := range []collide.Hasher{sum, alike, weak(2)} {
		empty := emptyWant(h)
		all := ones + strings.Join(empty[1:], "")
		for _, a := range []Answer{{Proof: noughts}, {true, "v", noughts}} {
			want, ok := Root(h, "a", a)
			if !ok {
				t.Fatal("32 noughts")
			}
			for i := range 256 {
				if r, ok := Root(h, "a", Answer{a.There, a.Value, flip(noughts, i) + empty[i+1]}); !ok || r != want {
					t.Errorf("the empty root of the depth %d: %x, %v, want %x", i+1, r, ok, want)
				}
			}
			if r, ok := Root(h, "a", Answer{a.There, a.Value, all}); !ok || r != want {
				t.Errorf("all empty roots: %x, %v, want %x", r, ok, want)
			}
		}
	}
}

func TestRootOfLongKeysAndValues(t *testing.T) {
	for _, n := range []int{0, 1, 254, 255, 256, 257, 511, 512, 70000} {
		for _, proof := range []string{noughts, fullProof(ones, "root")} {
			long := strings.Repeat("x", n)
			for _, c := range []struct {
				key string
				a   Answer
			}{{long, Answer{true, "v", proof}}, {long, Answer{true, "", proof}}, {long, Answer{false, "", proof}}, {"a", Answer{true, long, proof}}, {long, Answer{true, long, proof}}} {
				want, _, _ := answerWant(sum, c.key, c.a)
				if r, ok := Root(sum, c.key, c.a); ok != (n <= 255) || r != want {
					t.Errorf("%d bytes of key, %d of value: %x, %v", len(c.key), len(c.a.Value), r, ok)
				}
			}
		}
	}
}

// refused tells whether the answer holds under no root, of whatever hasher.
func refused(key string, a Answer) bool {
	for _, h := range []collide.Hasher{sum, alike} {
		if r, ok := Root(h, key, a); ok || r != "" {
			return false
		}
	}
	return true
}

func TestRootOfAValueThatIsNotThere(t *testing.T) {
	for _, proof := range sampleProofs() {
		for _, value := range []string{"\x00", "v", "E", longValue, longValue + "v"} {
			if !refused("a", Answer{false, value, proof}) {
				t.Errorf("%.9q", value)
			}
		}
	}
}

func TestRootOfProofsTooShort(t *testing.T) {
	for n := range 32 {
		for _, proof := range []string{noughts[:n], ones[:n], sum("bits")[:n]} {
			if !refused("a", Answer{false, "", proof}) || !refused("a", Answer{true, "v", proof}) {
				t.Errorf("%x", proof)
			}
		}
	}
}

func TestRootOfTooFewOrTooManyRoots(t *testing.T) {
	for i, proof := range sampleProofs() {
		wrong := []string{proof + noughts, proof + proof, proof + strings.Repeat(noughts, 255), proof + strings.Repeat(noughts, 256)}
		for n := 1; n < 32; n++ {
			wrong = append(wrong, proof+noughts[:n], proof[:len(proof)-n])
		}
		for n := 32; n < len(proof); n += 32 {
			wrong = append(wrong, proof[:n])
		}
		for _, p := range wrong {
			if !refused("a", Answer{true, "v", p}) || !refused("a", Answer{false, "", p}) {
				t.Errorf("proof %d, %d bytes of %d", i, len(p), len(proof))
			}
		}
	}
}

// TestRootOfOtherBits: with one bit otherwise there is a root too few, or too many.
func TestRootOfOtherBits(t *testing.T) {
	for j, proof := range sampleProofs() {
		for i := range 256 {
			if !refused("a", Answer{true, "v", flip(proof, i)}) {
				t.Errorf("proof %d, bit %d", j, i)
			}
		}
	}
}

// TestRootHangsOnAllThatIsTold: of an ordinary hasher each other byte makes another root.
func TestRootHangsOnAllThatIsTold(t *testing.T) {
	proof := fullProof(strings.Repeat("\x11", 32), "root")
	seen := map[string]string{}
	see := func(what, key string, a Answer) {
		r, ok := Root(sum, key, a)
		if before, twice := seen[r]; !ok || twice {
			t.Errorf("%s: %x, %v, as %s", what, r, ok, before)
		}
		seen[r] = what
	}
	see("as it is", "a", Answer{true, "v", proof})
	see("not there", "a", Answer{false, "", proof})
	see("no value", "a", Answer{true, "", proof})
	see("another value", "a", Answer{true, "w", proof})
	see("another key", "b", Answer{true, "v", proof})
	see("part of the value in the key", "av", Answer{true, "", proof})
	for at := 32; at < len(proof); at += 7 {
		see("another byte "+strconv.Itoa(at), "a", Answer{true, "v", changed(proof, at)})
	}
}

// The tests of P9.2: what is asked of a collision.

// isCollision tells whether the texts are unlike, the hasher tells the same of them, and each is among those told on the way.
func isCollision(h collide.Hasher, p collide.Pair, told ...[]string) bool {
	all := slices.Concat(told...)
	return p.A != p.B && h(p.A) == h(p.B) && slices.Contains(all, p.A) && slices.Contains(all, p.B)
}

// contradictWant tells whether one of them tells that the key is there and the other one that it isn't, or they tell unlike values.
func contradictWant(a, b Answer) bool {
	return a.There && !b.There || !a.There && b.There || a.Value != b.Value
}

// forge answers the given answer, but with other roots beside the path below that depth, and the texts that both tell at that depth:
// of a hasher that tells the same of these both hold under one root, and no other texts on the way collide.
func forge(key string, a, given Answer, depth int) (Answer, collide.Pair) {
	beside, _ := besideWant(sum, a.Proof)
	flags, roots := "", ""
	for i, root := range beside {
		if i >= depth {
			root = sum("forged " + strconv.Itoa(i))
		}
		if root == emptyWantOfSum[i+1] {
			flags += "0"
			continue
		}
		flags += "1"
		roots += root
	}
	f := Answer{given.There, given.Value, packed(flags) + roots}
	_, right, _ := answerWant(sum, key, a)
	_, wrong, _ := answerWant(sum, key, f)
	return f, collide.Pair{A: right[256-depth], B: wrong[256-depth]}
}

var emptyWantOfSum = emptyWant(sum)

// contradictions hands on answers that hold, each with one that contradicts it.
func contradictions(hand func(key string, a, given Answer)) {
	for _, c := range []struct {
		m     smt.Map
		key   string
		given Answer
	}{
		{nil, "a", Answer{There: true, Value: "v"}},
		{nil, "", Answer{There: true}},
		{smt.Map{"a": "1"}, "a", Answer{}},
		{smt.Map{"a": ""}, "a", Answer{}},
		{smt.Map{"a": "1", "b": "2"}, "a", Answer{There: true, Value: "2"}},
		{smt.Map{"a": "1", "b": "2"}, "b", Answer{There: true}},
		{smt.Map{"": "x", "b": "2"}, "", Answer{There: true, Value: "xx"}},
		{smt.Map{near: "near", far: "far"}, near, Answer{There: true, Value: "far"}},
		{smt.Map{longKey: longValue, "a": "1"}, longKey, Answer{There: true, Value: longValue[1:]}},
		{numbered(20), "c", Answer{There: true, Value: longValue}},
		{numbered(20), "key 7", Answer{}},
	} {
		hand(c.key, answerOf(c.m, c.key), c.given)
	}
}

// The tests of P9.2: Values.

func TestExample(t *testing.T) {
	there, not := Answer{true, "v", noughts}, Answer{false, "", noughts}
	if p, ok := Values(alike, noughts, "k", there, not); !ok || p != (collide.Pair{A: "V\x01kv", B: "E"}) {
		t.Error(p, ok)
	}
	if p, ok := Values(alike, noughts, "k", not, there); !ok || p != (collide.Pair{A: "E", B: "V\x01kv"}) {
		t.Error(p, ok)
	}
	if p, ok := Values(alike, noughts, "k", there, Answer{true, "", noughts}); !ok || p != (collide.Pair{A: "V\x01kv", B: "V\x01k"}) {
		t.Error(p, ok)
	}
}

// TestValuesFindsTheOnlyCollision plants one at each depth of a way: no other two texts that are told collide.
func TestValuesFindsTheOnlyCollision(t *testing.T) {
	contradictions(func(key string, a, given Answer) {
		for depth := range 257 {
			if key != near && depth%16 > 1 && depth != 255 {
				continue
			}
			b, want := forge(key, a, given, depth)
			h := planted(want)
			root, _, _ := answerWant(h, key, a)
			if p, ok := Values(h, root, key, a, b); !ok || p != want {
				t.Errorf("%.9q, depth %d: %q, %v", key, depth, p, ok)
			}
			if p, ok := Values(h, root, key, b, a); !ok || p != (collide.Pair{A: want.B, B: want.A}) {
				t.Errorf("%.9q, depth %d, the other way: %q, %v", key, depth, p, ok)
			}
			if p, ok := Values(sum, root, key, a, b); ok || p != (collide.Pair{}) {
				t.Errorf("%.9q, depth %d, no collision: %q, %v", key, depth, p, ok)
			}
		}
	})
}

// TestValuesOfTwoCollisions: one at the key's own place, and one above it, where the ways meet again: either will do.
func TestValuesOfTwoCollisions(t *testing.T) {
	contradictions(func(key string, a, given Answer) {
		for _, depth := range []int{0, 1, 100, 255} {
			low, first := forge(key, a, given, 256)
			b, _ := forge(key, a, given, depth)
			b = Answer{low.There, low.Value, b.Proof}
			h := planted(first)
			_, one, _ := answerWant(h, key, a)
			_, two, _ := answerWant(h, key, b)
			h = planted(first, collide.Pair{A: one[256-depth], B: two[256-depth]})
			root, _, _ := answerWant(h, key, a)
			if p, ok := Values(h, root, key, a, b); !ok || !isCollision(h, p, one, two) {
				t.Errorf("%.9q, depth %d: %q, %v", key, depth, p, ok)
			}
		}
	})
}

func TestValuesOfAHasherThatTellsTheSameOfAll(t *testing.T) {
	for i, one := range sampleProofs() {
		for j, two := range sampleProofs() {
			for _, key := range []string{"", "a", longKey} {
				answers := []Answer{{false, "", one}, {true, "", one}, {true, "v", one}, {true, longValue, one}}
				for _, a := range answers {
					for _, b := range answers {
						b.Proof = two
						p, ok := Values(alike, noughts, key, a, b)
						_, x, _ := answerWant(alike, key, a)
						_, y, _ := answerWant(alike, key, b)
						if ok != contradictWant(a, b) || ok && !isCollision(alike, p, x, y) || !ok && p != (collide.Pair{}) {
							t.Errorf("proofs %d and %d, %.9q, %v, %.9q, %v, %.9q: %q, %v", i, j, key, a.There, a.Value, b.There, b.Value, p, ok)
						}
					}
				}
			}
		}
	}
}

// TestValuesRefuses: all holds, and would be answered, but for one thing each.
func TestValuesRefuses(t *testing.T) {
	contradictions(func(key string, a, given Answer) {
		root, _, _ := answerWant(sum, key, a)
		b, want := forge(key, a, given, 200)
		h := planted(want)
		refuse := func(what, root, key string, a, b Answer) {
			t.Helper()
			if p, ok := Values(h, root, key, a, b); ok || p != (collide.Pair{}) {
				t.Errorf("%.9q, %s: %q, %v", key, what, p, ok)
			}
			if p, ok := Values(h, root, key, b, a); ok || p != (collide.Pair{}) {
				t.Errorf("%.9q, %s, the other way: %q, %v", key, what, p, ok)
			}
		}
		if _, ok := Values(h, root, key, a, b); !ok {
			t.Errorf("%.9q: nothing to refuse", key)
		}
		refuse("one answer twice", root, key, a, a)
		refuse("the forged answer twice", root, key, b, b)
		for _, other := range []string{"", noughts, changed(root, 5), root[:31], root + "\x00", root + root, h(root), emptyWantOfSum[256]} {
			refuse("another root", other, key, a, b)
		}
		refuse("another key", root, "other", a, b)
		refuse("too long a key", root, longKey+"k", a, b)
		for _, value := range []string{"another", longValue + "v", strings.Repeat("v", 512)} {
			refuse("another value", root, key, a, Answer{b.There, value, b.Proof})
		}
		for _, proof := range []string{"", b.Proof[:31], b.Proof[:32], b.Proof + "\x00", b.Proof + noughts, b.Proof[:len(b.Proof)-1], b.Proof[:len(b.Proof)-32], changed(b.Proof, len(b.Proof)-1), flip(b.Proof, 255), flip(b.Proof, 0)} {
			refuse("another proof", root, key, a, Answer{b.There, b.Value, proof})
		}
	})
}

// TestCollisionsUnderAnotherRoot: the answers contradict each other, and their ways meet in a collision, but above it they part again, so that one of them doesn't hold.
func TestCollisionsUnderAnotherRoot(t *testing.T) {
	contradictions(func(key string, a, given Answer) {
		b, pair := forge(key, a, given, 256)
		h := planted(pair)
		for _, depth := range []int{0, 1, 100, 255} {
			away, _ := forge(key, b, b, depth)
			root, _, _ := answerWant(h, key, a)
			other, _, ok := answerWant(h, key, away)
			if !ok || root == other {
				t.Fatalf("%.9q, depth %d: %x", key, depth, other)
			}
			for _, under := range []string{root, other} {
				if p, ok := Values(h, under, key, a, away); ok || p != (collide.Pair{}) {
					t.Errorf("%.9q, depth %d: %q, %v", key, depth, p, ok)
				}
				if p, ok := Values(h, under, key, away, a); ok || p != (collide.Pair{}) {
					t.Errorf("%.9q, depth %d, the other way: %q, %v", key, depth, p, ok)
				}
			}
			if p, ok := Values(h, root, key, a, b); !ok || !isCollision(h, p, []string{pair.A, pair.B}) {
				t.Errorf("%.9q: %q, %v", key, p, ok)
			}
		}
	})
}

// TestValuesRefusesWhatNeverHolds: of a hasher that tells the same of all, where every answer that can hold does.
func TestValuesRefusesWhatNeverHolds(t *testing.T) {
	right := Answer{true, "right", noughts}
	for _, wrong := range []Answer{
		{false, "v", noughts},
		{true, longValue + "v", noughts},
		{true, "v", ""},
		{true, "v", noughts[:31]},
		{true, "v", noughts + "\x00"},
		{true, "v", noughts + noughts},
		{true, "v", "\x01" + noughts[:31]},
		{true, "v", "\x03" + noughts[:31] + noughts},
		{false, "", ones + strings.Repeat(noughts, 255)},
		{false, "", ones + strings.Repeat(noughts, 257)},
	} {
		if p, ok := Values(alike, noughts, "a", right, wrong); ok || p != (collide.Pair{}) {
			t.Errorf("%v: %q, %v", wrong, p, ok)
		}
		if p, ok := Values(alike, noughts, "a", wrong, right); ok || p != (collide.Pair{}) {
			t.Errorf("%v, the other way: %q, %v", wrong, p, ok)
		}
		if p, ok := Values(alike, noughts, "a", wrong, wrong); ok || p != (collide.Pair{}) {
			t.Errorf("%v, twice: %q, %v", wrong, p, ok)
		}
	}
	if p, ok := Values(alike, noughts, longKey+"k", right, Answer{Proof: noughts}); ok || p != (collide.Pair{}) {
		t.Errorf("too long a key: %q, %v", p, ok)
	}
	for _, root := range []string{"", noughts[:31], noughts + "\x00", ones} {
		if p, ok := Values(alike, root, "a", right, Answer{Proof: noughts}); ok || p != (collide.Pair{}) {
			t.Errorf("another root: %q, %v", p, ok)
		}
	}
}

// TestLikeAnswersOfUnlikeProofs: though there is a collision, the answers tell the same.
func TestLikeAnswersOfUnlikeProofs(t *testing.T) {
	for _, depth := range []int{0, 1, 100, 200, 254, 255} {
		contradictions(func(key string, a, _ Answer) {
			root, _, _ := answerWant(sum, key, a)
			b, pair := forge(key, a, a, depth)
			h := planted(pair)
			if r, ok := Root(h, key, b); !ok || r != root {
				t.Errorf("%.9q, depth %d: %x, %v", key, depth, r, ok)
			}
			if p, ok := Values(h, root, key, a, b); ok || p != (collide.Pair{}) {
				t.Errorf("%.9q, depth %d: %q, %v", key, depth, p, ok)
			}
		})
	}
}

// The tests of P9.3: who shows two values of one key shows a collision.

// dice tells numbers that look as if they were thrown, the same ones each time.
type dice struct{ thrown int }

func (d *dice) below(n int) int {
	d.thrown++
	b := sum("dice " + strconv.Itoa(d.thrown))
	return (int(b[0])<<16 | int(b[1])<<8 | int(b[2])) % n
}

// answer throws one, with as few or as many roots as they fall.
func (d *dice) answer(kinds int) Answer {
	flags := []string{noughts, sum(strconv.Itoa(d.thrown)), ones, "\x80" + noughts[1:], noughts[1:] + "\x01"}[d.below(5)]
	a := Answer{There: d.below(3) > 0, Proof: flags}
	for range strings.Count(letters(flags), "1") {
		a.Proof += thing(d.below(kinds))
	}
	if a.There {
		a.Value = strings.Repeat("v", d.below(3))
	}
	return a
}

func TestWhateverHoldsShowsACollision(t *testing.T) {
	d, shown := &dice{}, 0
	for range 400 {
		kinds := 2 + d.below(2)
		h, key := weak(kinds), "key "+strconv.Itoa(d.below(9))
		a, b := d.answer(kinds), d.answer(kinds)
		root, one, _ := answerWant(h, key, a)
		other, two, _ := answerWant(h, key, b)
		p, ok := Values(h, root, key, a, b)
		if ok != (root == other && contradictWant(a, b)) || ok && !isCollision(h, p, one, two) || !ok && p != (collide.Pair{}) {
			t.Fatalf("%q, %v, %v: %q, %v", key, a, b, p, ok)
		}
		if ok {
			shown++
		}
	}
	if shown < 50 {
		t.Errorf("%d were shown", shown)
	}
}

// halfWeak is a hasher that tells ordinary paths, and has only so many things to tell of all else.
func halfWeak(many int) collide.Hasher {
	few := weak(many)
	return func(b string) string {
		if strings.HasPrefix(b, "K") {
			return sum(b)
		}
		return few(b)
	}
}

// TestHonestMapsOfAWeakHasher: maps that tell otherwise of a key, and have one root, make a collision.
func TestHonestMapsOfAWeakHasher(t *testing.T) {
	h, shown := halfWeak(2), 0
	for i := range 6 {
		m := map[string]string{"a": "1", "b": "2"}
		other := map[string]string{"a": "value " + strconv.Itoa(i), "c": "3"}
		root := mapRootWant(h, emptyWant(h), "", m)
		same := mapRootWant(h, emptyWant(h), "", other) == root
		for _, key := range []string{"a", "b", "c"} {
			var a, b Answer
			a.Value, a.There = m[key]
			b.Value, b.There = other[key]
			a.Proof, b.Proof = mapProofWant(h, m, key), mapProofWant(h, other, key)
			p, ok := Values(h, root, key, a, b)
			_, one, _ := answerWant(h, key, a)
			_, two, _ := answerWant(h, key, b)
			if ok != same || ok && !isCollision(h, p, one, two) || !ok && p != (collide.Pair{}) {
				t.Errorf("%q, map %d: %q, %v", key, i, p, ok)
			}
			if ok {
				shown++
			}
		}
	}
	if shown == 0 {
		t.Error("none were shown")
	}
}

// TestHonestMapsOfAnOrdinaryHasher: under one root no two of them contradict each other, so nothing is shown.
func TestHonestMapsOfAnOrdinaryHasher(t *testing.T) {
	for _, key := range []string{"", "a", longKey} {
		var answers []Answer
		for _, m := range sampleMaps() {
			answers = append(answers, answerOf(m, key))
		}
		for i, m := range sampleMaps() {
			root := smt.Root(table, m)
			for j := range answers {
				if p, ok := Values(sum, root, key, answers[i], answers[j]); ok || p != (collide.Pair{}) {
					t.Errorf("%.9q, the maps %d and %d: %q, %v", key, i, j, p, ok)
				}
			}
		}
	}
}

// The tests of the rules: calls end, and answer the same each time.

func TestHashersThatAreNone(t *testing.T) {
	if p := Path(nil, "a"); p != "" {
		t.Errorf("%q", p)
	}
	none := []collide.Hasher{
		nil,
		func(b string) string { return b },
		func(b string) string { return b + b },
		func(b string) string { return (b + noughts)[:max(32, len(b))] },
	}
	for _, n := range []int{0, 1, 31, 33, 64} {
		none = append(none, func(string) string { return strings.Repeat("\xff", n) })
	}
	for _, mark := range []string{"K", "N", "E", "N" + emptyWantOfSum[100], "N" + emptyWantOfSum[1]} {
		for _, other := range []string{"", noughts[1:], noughts + "\x00"} {
			none = append(none, func(b string) string {
				if strings.HasPrefix(b, mark) {
					return other
				}
				return sum(b)
			})
		}
	}
	for i, h := range none {
		// Of the longer key what tells just what it is given has a path of 32 bytes.
		for _, key := range []string{"a", longKey[:31]} {
			a, b := Answer{true, "v", noughts}, Answer{Proof: noughts}
			if r, ok := Root(h, key, a); ok || r != "" {
				t.Errorf("%d: %.40q, %v", i, r, ok)
			}
			if p, ok := Values(h, noughts, key, a, b); ok || p != (collide.Pair{}) {
				t.Errorf("%d: %.40q, %v", i, p, ok)
			}
			if p, ok := Values(h, "", key, a, b); ok || p != (collide.Pair{}) {
				t.Errorf("%d, no root: %.40q, %v", i, p, ok)
			}
			for _, proof := range sampleProofs() {
				Root(h, key, Answer{Proof: proof})
			}
		}
	}
}

func TestEachTimeTheSame(t *testing.T) {
	contradictions(func(key string, a, given Answer) {
		root, _, _ := answerWant(sum, key, a)
		b, pair := forge(key, a, given, 100)
		h := planted(pair)
		first, _ := Values(h, root, key, a, b)
		for range 3 {
			if p, ok := Values(h, root, key, a, b); !ok || p != first {
				t.Errorf("%.9q: %q, %v", key, p, ok)
			}
			if r, ok := Root(h, key, a); !ok || r != root {
				t.Errorf("%.9q: %x, %v", key, r, ok)
			}
		}
	})
}
