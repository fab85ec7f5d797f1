package collide

import (
	"encoding/hex"
	"math"
	"slices"
	"strconv"
	"strings"
	"testing"

	"annalist/api"
	"annalist/merkle"
	"annalist/sha"
)

// The oracle says what the chapter's words, and layer 4's, say, of a hasher alone: nothing of this package is called in it.

var table = sha.Make()

// sum is an ordinary hasher.
func sum(b string) string {
	return sha.Sum(table, b)
}

// alike is a hasher that tells the same of all.
func alike(string) string {
	return strings.Repeat("\x00", 32)
}

// weak is a hasher that has only so many things to tell.
func weak(many int) Hasher {
	return func(b string) string {
		return strings.Repeat(string(rune(int(sum(b)[0])%many)), 32)
	}
}

// planted is an ordinary hasher, but of each pair's second text it tells what it tells of the first one.
func planted(pairs ...Pair) Hasher {
	return func(b string) string {
		for _, p := range pairs {
			if b == p.B {
				b = p.A
			}
		}
		return sum(b)
	}
}

// greatest is the greatest power of two below n.
func greatest(n int) int {
	k := 1
	for 2*k < n {
		k *= 2
	}
	return k
}

func rootWant(h Hasher, leaves []string) string {
	if len(leaves) == 1 {
		return h("\x00" + leaves[0])
	}
	k := greatest(len(leaves))
	return h("\x01" + rootWant(h, leaves[:k]) + rootWant(h, leaves[k:]))
}

func inclusionWant(h Hasher, leaves []string, i int) []string {
	if len(leaves) == 1 {
		return nil
	}
	k := greatest(len(leaves))
	if i < k {
		return append(inclusionWant(h, leaves[:k], i), rootWant(h, leaves[k:]))
	}
	return append(inclusionWant(h, leaves[k:], i-k), rootWant(h, leaves[:k]))
}

func consistencyWant(h Hasher, leaves []string, m int, flag bool) []string {
	if m == len(leaves) {
		if flag {
			return nil
		}
		return []string{rootWant(h, leaves)}
	}
	k := greatest(len(leaves))
	if m <= k {
		return append(consistencyWant(h, leaves[:k], m, flag), rootWant(h, leaves[k:]))
	}
	return append(consistencyWant(h, leaves[k:], m-k, false), rootWant(h, leaves[:k]))
}

// claimWant puts a claim's proof together: its root, the texts that it opens, from the root down, and whether it can hold.
func claimWant(h Hasher, c Claim) (string, []string, bool) {
	if c.Size < 1 || c.Size > 1<<20 || c.Index < 0 || c.Index >= c.Size {
		return "", nil, false
	}
	if c.Size == 1 {
		text := "\x00" + c.Leaf
		return h(text), []string{text}, len(c.Proof) == 0
	}
	if len(c.Proof) == 0 || len(c.Proof[len(c.Proof)-1]) != 32 {
		return "", nil, false
	}
	k, p := greatest(c.Size), c.Proof[len(c.Proof)-1]
	part := Claim{c.Leaf, c.Index, k, c.Proof[:len(c.Proof)-1]}
	if c.Index >= k {
		part.Index, part.Size = c.Index-k, c.Size-k
	}
	made, texts, ok := claimWant(h, part)
	text := "\x01" + made + p
	if c.Index >= k {
		text = "\x01" + p + made
	}
	return h(text), append([]string{text}, texts...), ok
}

// bothWant puts a consistency proof together: both roots, the texts that it opens under the first and under the second one, from the root down, and whether it can be one.
func bothWant(h Hasher, m, n int, first string, proof []string, flag bool) (a, b string, early, late []string, ok bool) {
	if m < 1 || m > n || n > 1<<20 || len(first) != 32 {
		return "", "", nil, nil, false
	}
	if m == n && flag {
		return first, first, nil, nil, len(proof) == 0
	}
	if len(proof) == 0 || len(proof[len(proof)-1]) != 32 {
		return "", "", nil, nil, false
	}
	p, rest := proof[len(proof)-1], proof[:len(proof)-1]
	if m == n {
		return p, p, nil, nil, len(rest) == 0
	}
	k := greatest(n)
	if m <= k {
		a, b, early, late, ok = bothWant(h, m, k, first, rest, flag)
		text := "\x01" + b + p
		return a, h(text), early, append([]string{text}, late...), ok
	}
	a, b, early, late, ok = bothWant(h, m-k, n-k, first, rest, false)
	one, two := "\x01"+p+a, "\x01"+p+b
	return h(one), h(two), append([]string{one}, early...), append([]string{two}, late...), ok
}

// leaves answers n of them, no two alike, and none of another name's.
func leaves(name string, n int) []string {
	var l []string
	for i := range n {
		l = append(l, name+" "+strconv.Itoa(i))
	}
	return l
}

// claim answers the claim of the leaf i of them that an ordinary hasher's tree makes.
func claim(l []string, i int) Claim {
	return Claim{l[i], i, len(l), inclusionWant(sum, l, i)}
}

// sizes answers numbers of leaves: all small ones, and those about powers of two.
func sizes() []int {
	return []int{1, 2, 3, 4, 5, 6, 7, 8, 9, 10, 11, 12, 13, 14, 15, 16, 17, 18, 21, 23, 31, 32, 33}
}

// great answers greater ones, up to the greatest that there is.
func great() []int {
	return []int{63, 64, 65, 127, 128, 129, 1000, 1<<16 - 1, 1 << 16, 1<<16 + 1, 1<<19 - 1, 1 << 19, 1<<19 + 1, 1<<19 + 1<<18 + 5, 1<<20 - 2, 1<<20 - 1, 1 << 20}
}

// places answers places among n: the first, the last, and such as are about the parting.
func places(n int) []int {
	l := []int{0, 1, 2, n / 3, n / 2, n - 3, n - 2, n - 1}
	k := greatest(n)
	l = append(l, k-1, k, k+1, k/2)
	slices.Sort(l)
	return slices.DeleteFunc(slices.Compact(l), func(i int) bool { return i < 0 || i >= n })
}

// noSizes answers sizes that no tree has.
func noSizes() []int {
	return []int{0, -1, -2, -32, -1 << 20, math.MinInt32, math.MinInt, math.MinInt + 1,
		1<<20 + 1, 1<<20 + 2, 1 << 21, 1<<21 + 1, 1 << 30, 1 << 31, 1 << 32, 1<<32 + 1, 1 << 40, 1<<62 + 1, math.MaxInt32, math.MaxInt - 1, math.MaxInt}
}

// noPlaces answers places that aren't among n.
func noPlaces(n int) []int {
	return []int{-1, -2, -n, math.MinInt32, math.MinInt, math.MinInt + 1, n, n + 1, 2 * n, 1 << 20, 1<<20 + 1, 1 << 32, 1 << 62, math.MaxInt - 1, math.MaxInt}
}

// evens makes the roots of trees of leaves that are all the same, each of them once: so a tree of 2^20 is soon made.
type evens struct {
	h    Hasher
	leaf string
	made map[int]string
}

func (e evens) root(n int) string {
	if n == 1 {
		return e.h("\x00" + e.leaf)
	}
	if _, ok := e.made[n]; !ok {
		k := greatest(n)
		e.made[n] = e.h("\x01" + e.root(k) + e.root(n-k))
	}
	return e.made[n]
}

func (e evens) inclusion(i, n int) []string {
	if n == 1 {
		return nil
	}
	k := greatest(n)
	if i < k {
		return append(e.inclusion(i, k), e.root(n-k))
	}
	return append(e.inclusion(i-k, n-k), e.root(k))
}

func (e evens) consistency(m, n int, flag bool) []string {
	if m == n {
		if flag {
			return nil
		}
		return []string{e.root(n)}
	}
	k := greatest(n)
	if m <= k {
		return append(e.consistency(m, k, flag), e.root(n-k))
	}
	return append(e.consistency(m-k, n-k, false), e.root(k))
}

// changed answers b with the byte at that place, or as far behind its beginning again, otherwise.
func changed(b string, at int) string {
	x := []byte(b)
	x[at%len(x)] ^= 1 << (at % 8)
	return string(x)
}

// misshape hands on what comes of a proof that has a hash too few or too many, or one that isn't of 32 bytes.
func misshape(proof []string, hand func(what string, proof []string)) {
	for i := range proof {
		hand("with one too few", slices.Delete(slices.Clone(proof), i, i+1))
		for _, other := range []string{"", proof[i][:31], proof[i] + "\x00", proof[i][:1], proof[i] + proof[i]} {
			x := slices.Clone(proof)
			x[i] = other
			hand("with one of "+strconv.Itoa(len(other))+" bytes", x)
		}
	}
	for i := range len(proof) + 1 {
		for _, more := range []string{"", alike(""), sum("more")} {
			hand("with one too many", slices.Insert(slices.Clone(proof), i, more))
		}
	}
	hand("with 32 too many", slices.Concat(proof, slices.Repeat([]string{sum("more")}, 32)))
	if len(proof) > 1 {
		hand("with none", nil)
		hand("with all in one", []string{strings.Join(proof, "")})
	}
}

// The tests of P8.1: Root.

func TestRootOfEachLeaf(t *testing.T) {
	all := leaves("leaf", 130)
	var hashes []string
	for _, leaf := range all {
		hashes = append(hashes, merkle.Leaf(table, leaf))
	}
	for _, n := range append(sizes(), 47, 63, 64, 65, 100, 127, 128, 129, 130) {
		want := merkle.Root(table, hashes[:n])
		for i := range n {
			proof, _ := merkle.Inclusion(table, hashes[:n], i)
			if r, ok := Root(sum, Claim{all[i], i, n, proof}); !ok || r != want {
				t.Errorf("%d of %d: %x, %v", i, n, r, ok)
			}
		}
	}
}

// known are the roots of the first 1, 2, .. of leaves("leaf", 7), as they were reckoned elsewhere.
func known() []string {
	var l []string
	for _, x := range []string{
		"1bb97dcc21635d47e2663efdfd0a174686d98dd701352dd2cd06e8b43fd3d305",
		"fc5f6b88ff8554f75bb2f9e6f39c31b1936d44b69276edf7b1205a955b9761e3",
		"d4f92c8fbb89720eb3b55677c7d7efaddfeb10d11a1a84a0ba8f1a23337faa95",
		"4f631084a157c54f54fcfb23ff5eb8650c4ba160c295bb13a9832b109d52677e",
		"341515982d650e23520dbd54d7fcf0afa1b70cc3a16a411d464dc9c1ac96c301",
		"8363c3821ce41ebb46222116a42cc83dba753984b23cfca26aaad0a6867336ea",
		"5a61fc2b54f9cfa71774f2432143dd40c6cb2b11947faf65a7d3da5cb65199c8",
	} {
		b, _ := hex.DecodeString(x)
		l = append(l, string(b))
	}
	return l
}

func TestKnownRoots(t *testing.T) {
	all := leaves("leaf", 7)
	for n := 1; n <= 7; n++ {
		for i := range n {
			if r, ok := Root(sum, claim(all[:n], i)); !ok || r != known()[n-1] {
				t.Errorf("%d of %d: %x, %v", i, n, r, ok)
			}
		}
		for m := 1; m <= n; m++ {
			a, b, ok := Both(sum, m, n, known()[m-1], consistencyWant(sum, all[:n], m, true))
			if !ok || a != known()[m-1] || b != known()[n-1] {
				t.Errorf("first %d of %d: %x, %x, %v", m, n, a, b, ok)
			}
		}
	}
}

// TestRootIsMadeOfWhateverHashes: no claim that has the right shape is refused.
func TestRootIsMadeOfWhateverHashes(t *testing.T) {
	long := func(b string) string { return (b + alike(""))[:32] }
	for _, h := range []Hasher{sum, alike, weak(2), long} {
		for _, n := range append(sizes(), great()...) {
			for _, i := range places(n) {
				c := Claim{Leaf: "leaf " + strconv.Itoa(i), Index: i, Size: n}
				for range (evens{alike, "", map[int]string{}}).inclusion(i, n) {
					c.Proof = append(c.Proof, sum(strconv.Itoa(len(c.Proof))))
				}
				want, _, _ := claimWant(h, c)
				if r, ok := Root(h, c); !ok || r != want {
					t.Errorf("%d of %d: %x, %v, want %x", i, n, r, ok, want)
				}
			}
		}
	}
}

func TestRootOfLeavesOfAllLengths(t *testing.T) {
	for _, leaf := range []string{"", "\x00", "\x01", "a", sum("a"), "\x01" + sum("a") + sum("b"), strings.Repeat("x", 200), strings.Repeat("y", 70000)} {
		if r, ok := Root(sum, Claim{Leaf: leaf, Size: 1}); !ok || r != sum("\x00"+leaf) {
			t.Errorf("%d bytes alone: %x, %v", len(leaf), r, ok)
		}
		want := sum("\x01" + sum("other") + sum("\x00"+leaf))
		if r, ok := Root(sum, Claim{leaf, 1, 2, []string{sum("other")}}); !ok || r != want {
			t.Errorf("%d bytes, the second of two: %x, %v", len(leaf), r, ok)
		}
	}
}

func TestRootOfGreatTrees(t *testing.T) {
	e := evens{sum, "leaf", map[int]string{}}
	for _, n := range great() {
		for _, i := range places(n) {
			if r, ok := Root(sum, Claim{"leaf", i, n, e.inclusion(i, n)}); !ok || r != e.root(n) {
				t.Errorf("%d of %d: %x, %v", i, n, r, ok)
			}
		}
	}
}

func TestRootOfNoSize(t *testing.T) {
	e := evens{sum, "leaf", map[int]string{}}
	for _, n := range noSizes() {
		for _, i := range []int{0, 1, n - 1, n / 2, 1<<20 - 1, 1 << 20, -1} {
			for many := range 65 {
				c := Claim{"leaf", i, n, slices.Repeat([]string{sum("a")}, many)}
				if r, ok := Root(sum, c); ok || r != "" {
					t.Errorf("%d of %d, %d hashes: %x, %v", i, n, many, r, ok)
				}
			}
			if n > 0 && n <= 1<<40 && i >= 0 && i < n {
				if r, ok := Root(sum, Claim{"leaf", i, n, e.inclusion(i, n)}); ok || r != "" {
					t.Errorf("%d of %d: %x, %v", i, n, r, ok)
				}
			}
		}
	}
}

func TestRootOfNoPlace(t *testing.T) {
	for _, n := range append(sizes(), great()...) {
		for _, i := range noPlaces(n) {
			if i >= 0 && i < n {
				continue
			}
			for many := range 24 {
				c := Claim{"leaf", i, n, slices.Repeat([]string{sum("a")}, many)}
				if r, ok := Root(sum, c); ok || r != "" {
					t.Errorf("%d of %d, %d hashes: %x, %v", i, n, many, r, ok)
				}
			}
		}
	}
}

func TestRootOfMisshapenProofs(t *testing.T) {
	e := evens{sum, "leaf", map[int]string{}}
	for _, n := range append(sizes(), great()...) {
		for _, i := range places(n) {
			misshape(e.inclusion(i, n), func(what string, proof []string) {
				if r, ok := Root(sum, Claim{"leaf", i, n, proof}); ok || r != "" {
					t.Errorf("%d of %d, %s: %x, %v", i, n, what, r, ok)
				}
			})
		}
	}
}

func TestNoHasher(t *testing.T) {
	a, b := Claim{Leaf: "a", Size: 1}, Claim{Leaf: "b", Size: 1}
	r, one := Root(nil, a)
	p, two := Leaves(nil, "", a, b)
	q, three := Prefix(nil, "", "", nil, a, b)
	s, u, four := Both(nil, 1, 1, sum("a"), nil)
	if one || two || three || four || r+s+u != "" || p != (Pair{}) || q != (Pair{}) {
		t.Error(r, one, p, two, q, three, s, u, four)
	}
}

// The tests of P8.1: Both.

func TestBothOfEachBeginning(t *testing.T) {
	var hashes []string
	for _, leaf := range leaves("leaf", 130) {
		hashes = append(hashes, merkle.Leaf(table, leaf))
	}
	for _, n := range append(sizes(), 47, 63, 64, 65, 127, 128, 129, 130) {
		second := merkle.Root(table, hashes[:n])
		for m := 1; m <= n; m++ {
			first := merkle.Root(table, hashes[:m])
			proof, _ := merkle.Consistency(table, hashes[:n], m)
			if a, b, ok := Both(sum, m, n, first, proof); !ok || a != first || b != second {
				t.Errorf("first %d of %d: %x, %x, %v", m, n, a, b, ok)
			}
		}
	}
}

func TestBothOfGreatTrees(t *testing.T) {
	e := evens{sum, "leaf", map[int]string{}}
	for _, n := range great() {
		for _, i := range places(n) {
			m := i + 1
			a, b, ok := Both(sum, m, n, e.root(m), e.consistency(m, n, true))
			if !ok || a != e.root(m) || b != e.root(n) {
				t.Errorf("first %d of %d: %x, %x, %v", m, n, a, b, ok)
			}
		}
	}
}

// TestBothIsMadeOfWhateverHashes: a proof of the right shape is answered, though it makes another first root than the one given.
func TestBothIsMadeOfWhateverHashes(t *testing.T) {
	even := evens{alike, "", map[int]string{}}
	for _, h := range []Hasher{sum, alike, weak(3)} {
		for _, n := range append(sizes(), great()...) {
			for _, i := range places(n) {
				m, first := i+1, sum("first")
				var proof []string
				for range even.consistency(m, n, true) {
					proof = append(proof, sum(strconv.Itoa(len(proof))))
				}
				wantA, wantB, _, _, _ := bothWant(h, m, n, first, proof, true)
				if a, b, ok := Both(h, m, n, first, proof); !ok || a != wantA || b != wantB {
					t.Errorf("first %d of %d: %x, %x, %v", m, n, a, b, ok)
				}
			}
		}
	}
}

// TestBothTakesTheFirstRootWhereTheProofHasNone: of a beginning that is a power of two, or all, the first root goes into the second one.
func TestBothTakesTheFirstRootWhereTheProofHasNone(t *testing.T) {
	x, y, z := sum("x"), sum("y"), sum("z")
	for _, c := range []struct {
		m, n  int
		proof []string
		a, b  string
	}{
		{1, 1, nil, x, x},
		{3, 3, nil, x, x},
		{1 << 20, 1 << 20, nil, x, x},
		{1, 2, []string{y}, x, sum("\x01" + x + y)},
		{2, 3, []string{y}, x, sum("\x01" + x + y)},
		{1, 3, []string{y, z}, x, sum("\x01" + sum("\x01"+x+y) + z)},
		{4, 7, []string{y}, x, sum("\x01" + x + y)},
		{1 << 19, 1 << 20, []string{y}, x, sum("\x01" + x + y)},
		{3, 4, []string{y, z, y}, sum("\x01" + y + y), sum("\x01" + y + sum("\x01"+y+z))},
	} {
		if a, b, ok := Both(sum, c.m, c.n, x, c.proof); !ok || a != c.a || b != c.b {
			t.Errorf("first %d of %d: %x, %x, %v", c.m, c.n, a, b, ok)
		}
	}
}

func TestBothOfNoBeginning(t *testing.T) {
	e := evens{sum, "leaf", map[int]string{}}
	refuse := func(m, n int) {
		for many := range 48 {
			a, b, ok := Both(sum, m, n, sum("a"), slices.Repeat([]string{sum("a")}, many))
			if ok || a != "" || b != "" {
				t.Errorf("first %d of %d, %d hashes: %x, %x, %v", m, n, many, a, b, ok)
			}
		}
	}
	for _, n := range append(sizes(), great()...) {
		for _, i := range noPlaces(n) {
			if m := i + 1; m < 1 || m > n {
				refuse(m, n)
			}
		}
	}
	for _, n := range noSizes() {
		for _, m := range []int{0, 1, 2, n, n - 1, n / 2, 1 << 19, 1 << 20, -1} {
			refuse(m, n)
			if m > 0 && m <= n && n <= 1<<40 {
				a, b, ok := Both(sum, m, n, e.root(m), e.consistency(m, n, true))
				if ok || a != "" || b != "" {
					t.Errorf("first %d of %d: %x, %x, %v", m, n, a, b, ok)
				}
			}
		}
	}
}

func TestBothOfMisshapenProofs(t *testing.T) {
	e := evens{sum, "leaf", map[int]string{}}
	for _, n := range append(sizes(), great()...) {
		for _, i := range places(n) {
			m := i + 1
			first, proof := e.root(m), e.consistency(m, n, true)
			misshape(proof, func(what string, proof []string) {
				if a, b, ok := Both(sum, m, n, first, proof); ok || a != "" || b != "" {
					t.Errorf("first %d of %d, %s: %x, %x, %v", m, n, what, a, b, ok)
				}
			})
			for _, other := range []string{"", first[:1], first[:31], first + "\x00", first + first} {
				if a, b, ok := Both(sum, m, n, other, proof); ok || a != "" || b != "" {
					t.Errorf("first %d of %d, a first root of %d bytes: %x, %x, %v", m, n, len(other), a, b, ok)
				}
			}
		}
	}
}

// The tests of P8.2 and P8.3: what is asked of a collision.

// isCollision tells whether the texts are unlike, the hasher tells the same of them, and each is among those opened.
func isCollision(h Hasher, p Pair, opened ...[]string) bool {
	all := slices.Concat(opened...)
	return p.A != p.B && h(p.A) == h(p.B) && slices.Contains(all, p.A) && slices.Contains(all, p.B)
}

// isPair tells whether p is of those two texts, whichever is first.
func isPair(p, q Pair) bool {
	return p == q || p == Pair{q.B, q.A}
}

// forge answers the claim c with another leaf, and other hashes below the node at that depth: what is above stays.
// It answers also the texts that both open at that depth: of a hasher that tells the same of these both hold under one root.
func forge(c Claim, depth int) (Claim, Pair) {
	low := len(c.Proof) - depth
	f := Claim{"forged", c.Index, c.Size, slices.Clone(c.Proof)}
	for i := range low {
		f.Proof[i] = sum("forged " + strconv.Itoa(i))
	}
	_, right, _ := claimWant(sum, c)
	_, wrong, _ := claimWant(sum, f)
	return f, Pair{right[depth], wrong[depth]}
}

// The tests of P8.2: Leaves.

func TestExample(t *testing.T) {
	a, b := Claim{Leaf: "a", Size: 1}, Claim{Leaf: "b", Size: 1}
	if p, ok := Leaves(alike, alike(""), a, b); !ok || p != (Pair{"\x00a", "\x00b"}) {
		t.Error(p, ok)
	}
	if p, ok := Prefix(alike, alike(""), alike(""), nil, a, b); !ok || p != (Pair{"\x00a", "\x00b"}) {
		t.Error(p, ok)
	}
}

// TestLeavesFindsTheOnlyCollision plants one at each depth of each way: no other two texts that are opened collide.
func TestLeavesFindsTheOnlyCollision(t *testing.T) {
	for _, n := range sizes() {
		all := leaves("leaf", n)
		root := rootWant(sum, all)
		for i := range n {
			a := claim(all, i)
			for depth := range len(a.Proof) + 1 {
				b, want := forge(a, depth)
				h := planted(want)
				if p, ok := Leaves(h, root, a, b); !ok || p != want {
					t.Errorf("%d of %d, depth %d: %q, %v", i, n, depth, p, ok)
				}
				if p, ok := Leaves(h, root, b, a); !ok || p != (Pair{want.B, want.A}) {
					t.Errorf("%d of %d, depth %d, the other way: %q, %v", i, n, depth, p, ok)
				}
				if p, ok := Leaves(sum, root, a, b); ok || p != (Pair{}) {
					t.Errorf("%d of %d, depth %d, no collision: %q, %v", i, n, depth, p, ok)
				}
			}
		}
	}
}

func TestLeavesOfGreatTrees(t *testing.T) {
	e := evens{sum, "leaf", map[int]string{}}
	for _, n := range great() {
		for _, i := range places(n) {
			a := Claim{"leaf", i, n, e.inclusion(i, n)}
			for _, depth := range []int{0, len(a.Proof) / 2, len(a.Proof)} {
				b, want := forge(a, depth)
				if p, ok := Leaves(planted(want), e.root(n), a, b); !ok || p != want {
					t.Errorf("%d of %d, depth %d: %q, %v", i, n, depth, p, ok)
				}
			}
		}
	}
	for _, n := range []int{1<<20 + 1, 1<<20 + 2, 1 << 21} {
		for _, i := range []int{0, 1, n / 2, n - 1} {
			proof := e.inclusion(i, n)
			if p, ok := Leaves(alike, alike(""), Claim{"a", i, n, proof}, Claim{"b", i, n, proof}); ok || p != (Pair{}) {
				t.Errorf("%d of %d: %q, %v", i, n, p, ok)
			}
		}
	}
}

func TestLeavesOfAHasherThatTellsTheSameOfAll(t *testing.T) {
	for _, n := range append(sizes(), great()...) {
		for _, i := range places(n) {
			shape := evens{sum, "leaf", map[int]string{}}.inclusion(i, n)
			a, b := Claim{"a", i, n, shape}, Claim{"b", i, n, slices.Repeat([]string{alike("")}, len(shape))}
			p, ok := Leaves(alike, alike(""), a, b)
			_, one, _ := claimWant(alike, a)
			_, two, _ := claimWant(alike, b)
			if !ok || !isCollision(alike, p, one, two) {
				t.Errorf("%d of %d: %q, %v", i, n, p, ok)
			}
		}
	}
}

// TestLeavesRefuses: all holds, and would be answered, but for one thing each.
func TestLeavesRefuses(t *testing.T) {
	for _, n := range sizes() {
		all := leaves("leaf", n)
		root := rootWant(sum, all)
		for i := range n {
			a := claim(all, i)
			b, want := forge(a, len(a.Proof)/2)
			h := planted(want)
			refuse := func(what, root string, a, b Claim) {
				t.Helper()
				if p, ok := Leaves(h, root, a, b); ok || p != (Pair{}) {
					t.Errorf("%d of %d, %s: %q, %v", i, n, what, p, ok)
				}
				if p, ok := Leaves(h, root, b, a); ok || p != (Pair{}) {
					t.Errorf("%d of %d, %s, the other way: %q, %v", i, n, what, p, ok)
				}
			}
			refuse("one claim twice", root, a, a)
			refuse("the forged claim twice", root, b, b)
			for _, other := range []string{"", sum("other"), changed(root, i), root[:31], root + "\x00", h(root)} {
				refuse("another root", other, a, b)
			}
			x := b
			x.Leaf = "forged otherwise"
			refuse("a leaf that doesn't hold", root, a, x)
			for j := range b.Proof {
				x, proof := b, slices.Clone(b.Proof)
				proof[j] = changed(proof[j], j)
				x.Proof = proof
				refuse("a proof that doesn't hold", root, a, x)
			}
			misshape(b.Proof, func(what string, proof []string) {
				x := b
				x.Proof = proof
				refuse("a proof "+what, root, a, x)
			})
			for j := range n {
				if j != i {
					refuse("unlike indexes", root, b, claim(all, j))
				}
			}
		}
	}
}

// TestLeavesOfUnlikePlaces: claims that both hold under the root, but not of one index and one size.
func TestLeavesOfUnlikePlaces(t *testing.T) {
	for _, n := range sizes() {
		for _, m := range sizes() {
			for _, i := range places(n) {
				for _, j := range places(m) {
					even := evens{alike, "", map[int]string{}}
					a, b := Claim{"a", i, n, even.inclusion(i, n)}, Claim{"b", j, m, even.inclusion(j, m)}
					p, ok := Leaves(alike, alike(""), a, b)
					if ok != (n == m && i == j) || !ok && p != (Pair{}) {
						t.Errorf("%d of %d, %d of %d: %q, %v", i, n, j, m, p, ok)
					}
					b.Leaf = "a"
					if p, ok := Leaves(alike, alike(""), a, b); ok || p != (Pair{}) {
						t.Errorf("%d of %d, %d of %d, like leaves: %q, %v", i, n, j, m, p, ok)
					}
				}
			}
		}
	}
}

// TestLikeLeavesOfUnlikeProofs: though there is a collision, the leaves are alike.
func TestLikeLeavesOfUnlikeProofs(t *testing.T) {
	z, y := alike(""), sum("y")
	a, b := Claim{"a", 0, 2, []string{z}}, Claim{"a", 0, 2, []string{y}}
	if p, ok := Leaves(alike, z, a, b); ok || p != (Pair{}) {
		t.Errorf("%q, %v", p, ok)
	}
	if p, ok := Prefix(alike, z, z, nil, a, b); ok || p != (Pair{}) {
		t.Errorf("%q, %v", p, ok)
	}
}

// The tests of P8.3: Prefix.

// TestPrefixFindsTheOnlyCollision forges one of the claims at each depth of its way: no other two texts that are opened collide.
func TestPrefixFindsTheOnlyCollision(t *testing.T) {
	for _, n := range sizes() {
		all := leaves("leaf", n)
		second := rootWant(sum, all)
		for m := 1; m <= n; m++ {
			first, proof := rootWant(sum, all[:m]), consistencyWant(sum, all, m, true)
			for i := range m {
				a, b := claim(all[:m], i), claim(all, i)
				for depth := range len(b.Proof) + 1 {
					f, want := forge(b, depth)
					if p, ok := Prefix(planted(want), first, second, proof, a, f); !ok || !isPair(p, want) {
						t.Errorf("%d of the first %d of %d, depth %d of the second: %q, %v", i, m, n, depth, p, ok)
					}
				}
				for depth := range len(a.Proof) + 1 {
					f, want := forge(a, depth)
					if p, ok := Prefix(planted(want), first, second, proof, f, b); !ok || !isPair(p, want) {
						t.Errorf("%d of the first %d of %d, depth %d of the first: %q, %v", i, m, n, depth, p, ok)
					}
				}
			}
		}
	}
}

// TestPrefixOfForgedGrowth: each claim is of a tree that was made as it should, and those are quite unlike; it is the consistency proof that is forged.
func TestPrefixOfForgedGrowth(t *testing.T) {
	for _, n := range sizes() {
		for m := 1; m < n; m++ {
			all, other := leaves("leaf", n), leaves("other", n)
			proof := consistencyWant(sum, all, m, true)
			_, _, early, late, _ := bothWant(sum, m, n, rootWant(sum, all[:m]), proof, true)
			for i := range m {
				a, b := claim(all[:m], i), claim(other, i)
				_, texts, _ := claimWant(sum, b)
				want := Pair{texts[0], late[0]}
				if p, ok := Prefix(planted(want), rootWant(sum, all[:m]), rootWant(sum, other), proof, a, b); !ok || !isPair(p, want) {
					t.Errorf("%d of the first %d of %d, at the second root: %q, %v", i, m, n, p, ok)
				}
				if len(early) == 0 {
					continue
				}
				a, b = claim(other[:m], i), claim(all, i)
				_, texts, _ = claimWant(sum, a)
				want = Pair{texts[0], early[0]}
				if p, ok := Prefix(planted(want), rootWant(sum, other[:m]), rootWant(sum, all), proof, a, b); !ok || !isPair(p, want) {
					t.Errorf("%d of the first %d of %d, at the first root: %q, %v", i, m, n, p, ok)
				}
			}
		}
	}
}

func TestPrefixOfGreatTrees(t *testing.T) {
	e := evens{sum, "leaf", map[int]string{}}
	for _, n := range great() {
		for _, last := range places(n) {
			m := last + 1
			for _, i := range places(m) {
				a, b := Claim{"leaf", i, m, e.inclusion(i, m)}, Claim{"leaf", i, n, e.inclusion(i, n)}
				for _, depth := range []int{0, len(b.Proof) / 2, len(b.Proof)} {
					f, want := forge(b, depth)
					p, ok := Prefix(planted(want), e.root(m), e.root(n), e.consistency(m, n, true), a, f)
					if !ok || !isPair(p, want) {
						t.Errorf("%d of the first %d of %d, depth %d: %q, %v", i, m, n, depth, p, ok)
					}
				}
			}
		}
	}
	for _, n := range []int{1<<20 + 1, 1<<20 + 2, 1 << 21} {
		for _, m := range []int{1, 3, 1 << 20, 1<<20 + 1} {
			a, b := Claim{"a", 0, m, e.inclusion(0, m)}, Claim{"b", 0, n, e.inclusion(0, n)}
			if p, ok := Prefix(alike, alike(""), alike(""), e.consistency(m, n, true), a, b); ok || p != (Pair{}) {
				t.Errorf("first %d of %d: %q, %v", m, n, p, ok)
			}
		}
	}
}

func TestPrefixOfAHasherThatTellsTheSameOfAll(t *testing.T) {
	e, z := evens{sum, "leaf", map[int]string{}}, alike("")
	for _, n := range append(sizes(), great()...) {
		for _, last := range places(n) {
			m := last + 1
			for _, i := range places(m) {
				a, b := Claim{"a", i, m, e.inclusion(i, m)}, Claim{"b", i, n, e.inclusion(i, n)}
				proof := slices.Repeat([]string{z}, len(e.consistency(m, n, true)))
				p, ok := Prefix(alike, z, z, proof, a, b)
				_, one, _ := claimWant(alike, a)
				_, two, _ := claimWant(alike, b)
				_, _, early, late, _ := bothWant(alike, m, n, z, proof, true)
				if !ok || !isCollision(alike, p, one, two, early, late) {
					t.Errorf("%d of the first %d of %d: %q, %v", i, m, n, p, ok)
				}
			}
		}
	}
}

// TestPrefixRefuses: all holds, and would be answered, but for one thing each.
func TestPrefixRefuses(t *testing.T) {
	for _, n := range sizes() {
		all := leaves("leaf", n)
		second := rootWant(sum, all)
		for _, last := range places(n) {
			m := last + 1
			first, proof := rootWant(sum, all[:m]), consistencyWant(sum, all, m, true)
			for _, i := range places(m) {
				a := claim(all[:m], i)
				b, want := forge(claim(all, i), 0)
				h := planted(want)
				refuse := func(what, first, second string, proof []string, a, b Claim) {
					t.Helper()
					if p, ok := Prefix(h, first, second, proof, a, b); ok || p != (Pair{}) {
						t.Errorf("%d of the first %d of %d, %s: %q, %v", i, m, n, what, p, ok)
					}
				}
				refuse("like leaves", first, second, proof, a, claim(all, i))
				for j := range n {
					if j != i {
						refuse("unlike indexes", first, second, proof, a, claim(all, j))
					}
				}
				for _, other := range []string{"", sum("other"), changed(first, i), first[:31], first + "\x00"} {
					refuse("another first root", other, second, proof, a, b)
				}
				for _, other := range []string{"", sum("other"), changed(second, i), second[:31], second + "\x00"} {
					refuse("another second root", first, other, proof, a, b)
				}
				if m != n {
					refuse("changed about", second, first, proof, b, a)
					refuse("the second root twice", second, second, proof, a, b)
				}
				misshape(proof, func(what string, proof []string) {
					refuse("growth "+what, first, second, proof, a, b)
				})
				misshape(a.Proof, func(what string, wrong []string) {
					refuse("first claim "+what, first, second, proof, Claim{a.Leaf, i, m, wrong}, b)
				})
				misshape(b.Proof, func(what string, wrong []string) {
					refuse("second claim "+what, first, second, proof, a, Claim{b.Leaf, i, n, wrong})
				})
				for j := range proof {
					wrong := slices.Clone(proof)
					wrong[j] = changed(wrong[j], j)
					refuse("growth with another byte", first, second, wrong, a, b)
				}
			}
		}
	}
}

// TestPrefixAsksForBothRoots: the claims hold under their roots, but the proof makes another first root, or another second one, and nothing else is amiss.
func TestPrefixAsksForBothRoots(t *testing.T) {
	all, other := leaves("leaf", 7), leaves("other", 7)
	for m := 1; m < 7; m++ {
		proof := consistencyWant(sum, all, m, true)
		for i := range m {
			first, second := rootWant(sum, all[:m]), rootWant(sum, all)
			if p, ok := Prefix(sum, rootWant(sum, other[:m]), second, proof, claim(other[:m], i), claim(all, i)); ok || p != (Pair{}) {
				t.Errorf("%d of the first %d, another first root: %q, %v", i, m, p, ok)
			}
			if p, ok := Prefix(sum, first, rootWant(sum, other), proof, claim(all[:m], i), claim(other, i)); ok || p != (Pair{}) {
				t.Errorf("%d of the first %d, another second root: %q, %v", i, m, p, ok)
			}
		}
	}
	if p, ok := Prefix(sum, rootWant(sum, all), rootWant(sum, other), nil, claim(all, 3), claim(other, 3)); ok || p != (Pair{}) {
		t.Errorf("all of them: %q, %v", p, ok)
	}
}

// TestPrefixOfTwoTimesTheSame is as Leaves.
func TestPrefixOfTwoTimesTheSame(t *testing.T) {
	for _, n := range sizes() {
		all := leaves("leaf", n)
		root := rootWant(sum, all)
		for i := range n {
			a := claim(all, i)
			b, want := forge(a, len(a.Proof)/2)
			if p, ok := Prefix(planted(want), root, root, nil, a, b); !ok || p != want {
				t.Errorf("%d of %d: %q, %v", i, n, p, ok)
			}
			if p, ok := Prefix(planted(want), root, root, []string{root}, a, b); ok || p != (Pair{}) {
				t.Errorf("%d of %d, with a proof: %q, %v", i, n, p, ok)
			}
		}
	}
}

// The tests of P8.4: who shows two leaves at one place shows a collision.

// dice tells numbers that look as if they were thrown, the same ones each time.
type dice struct{ thrown int }

func (d *dice) below(n int) int {
	d.thrown++
	b := sum("dice " + strconv.Itoa(d.thrown))
	return (int(b[0])<<16 | int(b[1])<<8 | int(b[2])) % n
}

// hashes answers many of those that a weak hasher has to tell.
func (d *dice) hashes(many, kinds int) []string {
	var l []string
	for range many {
		l = append(l, strings.Repeat(string(rune(d.below(kinds))), 32))
	}
	return l
}

func TestWhateverHoldsShowsACollision(t *testing.T) {
	d, shape := &dice{}, evens{alike, "", map[int]string{}}
	leavesShown, prefixesShown := 0, 0
	for range 20000 {
		kinds := 2 + d.below(3)
		h := weak(kinds)
		n := 1 + d.below(20)
		m := 1 + d.below(n)
		i := d.below(m)
		a := Claim{"a" + strconv.Itoa(d.below(9)), i, m, d.hashes(len(shape.inclusion(i, m)), kinds)}
		b := Claim{"b" + strconv.Itoa(d.below(9)), i, n, d.hashes(len(shape.inclusion(i, n)), kinds)}
		c := Claim{"c" + strconv.Itoa(d.below(9)), i, m, d.hashes(len(a.Proof), kinds)}
		proof := d.hashes(len(shape.consistency(m, n, true)), kinds)
		first, one, _ := claimWant(h, a)
		second, two, _ := claimWant(h, b)
		third, three, _ := claimWant(h, c)
		made, grown, early, late, _ := bothWant(h, m, n, first, proof, true)

		p, ok := Leaves(h, first, a, c)
		if ok != (first == third) || ok && !isCollision(h, p, one, three) || !ok && p != (Pair{}) {
			t.Fatalf("%v, %v: %q, %v", a, c, p, ok)
		}
		if ok {
			leavesShown++
		}
		p, ok = Prefix(h, first, second, proof, a, b)
		if ok != (made == first && grown == second) || ok && !isCollision(h, p, one, two, early, late) || !ok && p != (Pair{}) {
			t.Fatalf("%v, %v, %q: %q, %v", a, b, proof, p, ok)
		}
		if ok {
			prefixesShown++
		}
	}
	if leavesShown < 1000 || prefixesShown < 1000 {
		t.Errorf("%d and %d were shown", leavesShown, prefixesShown)
	}
}

// TestHonestTreesOfAWeakHasher: trees of unlike leaves that have one root make a collision at each place where they are unlike.
func TestHonestTreesOfAWeakHasher(t *testing.T) {
	h, shown := weak(3), 0
	for n := 1; n <= 17; n++ {
		all := leaves("leaf", n)
		root := rootWant(h, all)
		for name := range 12 {
			other := leaves("other "+strconv.Itoa(name), n)
			if rootWant(h, other) != root {
				continue
			}
			for i := range n {
				a, b := Claim{all[i], i, n, inclusionWant(h, all, i)}, Claim{other[i], i, n, inclusionWant(h, other, i)}
				p, ok := Leaves(h, root, a, b)
				_, one, _ := claimWant(h, a)
				_, two, _ := claimWant(h, b)
				if !ok || !isCollision(h, p, one, two) {
					t.Errorf("%d of %d: %q, %v", i, n, p, ok)
				}
				shown++
			}
		}
	}
	if shown < 100 {
		t.Errorf("%d were shown", shown)
	}
}

// The tests of the rules: what is handed in is left as it is.

// roomy answers the list with spare room behind it, which is filled.
func roomy(l []string) []string {
	x := append(slices.Clone(l), "spare", "room")
	return x[:len(l):len(x)]
}

// untouched tells whether a roomy list still says what l says, and its spare room what it said.
func untouched(x, l []string) bool {
	return slices.Equal(x, l) && slices.Equal(x[len(l):cap(x)][:2], []string{"spare", "room"})
}

func TestArgumentsStayAsTheyAre(t *testing.T) {
	for _, n := range sizes() {
		all := leaves("leaf", n)
		for _, last := range places(n) {
			m := last + 1
			proof := consistencyWant(sum, all, m, true)
			for _, i := range places(m) {
				a := claim(all[:m], i)
				b, want := forge(claim(all, i), 0)
				x, y, z := a, b, roomy(proof)
				x.Proof, y.Proof = roomy(a.Proof), roomy(b.Proof)
				h, first, second := planted(want), rootWant(sum, all[:m]), rootWant(sum, all)
				Root(h, x)
				Both(h, m, n, first, z)
				Leaves(h, first, x, y)
				Leaves(h, second, y, claim(all, i))
				Prefix(h, first, second, z, x, y)
				if !untouched(x.Proof, a.Proof) || !untouched(y.Proof, b.Proof) || !untouched(z, proof) {
					t.Errorf("%d of the first %d of %d: %q, %q, %q", i, m, n, x.Proof, y.Proof, z)
				}
			}
		}
	}
}

// TestNilAndEmptyListsMeanTheSame: of trees of one leaf, and of beginnings that are all.
func TestNilAndEmptyListsMeanTheSame(t *testing.T) {
	z := alike("")
	for _, none := range [][]string{nil, {}} {
		a, b := Claim{"a", 0, 1, none}, Claim{"b", 0, 1, []string{}}
		r, one := Root(sum, a)
		p, two := Leaves(alike, z, a, b)
		q, three := Prefix(alike, z, z, none, a, b)
		s, u, four := Both(sum, 5, 5, z, none)
		if !one || !two || !three || !four || r != sum("\x00a") || s != z || u != z || p != (Pair{"\x00a", "\x00b"}) || q != p {
			t.Error(r, one, p, two, q, three, s, u, four)
		}
	}
}

func TestLimitIsTheDocuments(t *testing.T) {
	if api.HashSize != 32 || maxSize != 1048576 {
		t.Error(api.HashSize, maxSize)
	}
}
