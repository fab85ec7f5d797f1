package merkle

import (
	"encoding/hex"
	"math"
	"slices"
	"strconv"
	"strings"
	"testing"

	"annalist/api"
	"annalist/sha"
)

// The oracle says what the chapter's words say, of sha alone: nothing of this package is called in it.

var table = sha.Make()

// h is H of the parts, one behind the other.
func h(parts ...string) string {
	return sha.Sum(table, strings.Join(parts, ""))
}

// greatest is the greatest power of two below n.
func greatest(n int) int {
	k := 1
	for 2*k < n {
		k *= 2
	}
	return k
}

func rootWant(l []string) string {
	if len(l) == 0 {
		return h()
	}
	if len(l) == 1 {
		return l[0]
	}
	k := greatest(len(l))
	return h("\x01", rootWant(l[:k]), rootWant(l[k:]))
}

func inclusionWant(l []string, i int) []string {
	if len(l) == 1 {
		return nil
	}
	k := greatest(len(l))
	if i < k {
		return slices.Concat(inclusionWant(l[:k], i), []string{rootWant(l[k:])})
	}
	return slices.Concat(inclusionWant(l[k:], i-k), []string{rootWant(l[:k])})
}

func consistencyWant(l []string, m int, flag bool) []string {
	if m == len(l) {
		if flag {
			return nil
		}
		return []string{rootWant(l)}
	}
	k := greatest(len(l))
	if m <= k {
		return slices.Concat(consistencyWant(l[:k], m, flag), []string{rootWant(l[k:])})
	}
	return slices.Concat(consistencyWant(l[k:], m-k, false), []string{rootWant(l[:k])})
}

// includedWant puts a proof together from below, by the bits of i and of the last place, without going down first.
func includedWant(leaf string, i, n int, proof []string, root string) bool {
	at, end, made := i, n-1, leaf
	for _, p := range proof {
		if end == 0 {
			return false
		}
		if at%2 == 1 || at == end {
			made = h("\x01", p, made)
			for at%2 == 0 && at != 0 {
				at, end = at/2, end/2
			}
		} else {
			made = h("\x01", made, p)
		}
		at, end = at/2, end/2
	}
	return end == 0 && made == root
}

// consistentWant does the same for both roots.
func consistentWant(m, n int, first, second string, proof []string) bool {
	if m == n {
		return len(proof) == 0 && first == second
	}
	if m&(m-1) == 0 {
		proof = slices.Concat([]string{first}, proof)
	}
	if len(proof) == 0 {
		return false
	}
	at, end := m-1, n-1
	for at%2 == 1 {
		at, end = at/2, end/2
	}
	a, b := proof[0], proof[0]
	for _, p := range proof[1:] {
		if end == 0 {
			return false
		}
		if at%2 == 1 || at == end {
			a, b = h("\x01", p, a), h("\x01", p, b)
			for at%2 == 0 && at != 0 {
				at, end = at/2, end/2
			}
		} else {
			b = h("\x01", b, p)
		}
		at, end = at/2, end/2
	}
	return end == 0 && a == first && b == second
}

// hashes answers n of them, no two alike.
func hashes(n int) []string {
	var l []string
	for i := range n {
		l = append(l, h("\x00", "leaf "+strconv.Itoa(i)))
	}
	return l
}

// beginnings answers the roots of the first 0, 1, .. leaves.
func beginnings(l []string) []string {
	var roots []string
	for n := range len(l) + 1 {
		roots = append(roots, rootWant(l[:n]))
	}
	return roots
}

// sizes answers numbers of leaves: all small ones, and those about powers of two.
func sizes() []int {
	l := []int{21, 22, 31, 32, 33, 34, 47, 48, 49, 62, 63, 64}
	for n := 18; n > 0; n-- {
		l = slices.Insert(l, 0, n)
	}
	return l
}

// outside answers numbers that are below low, or above high.
func outside(low, high int) []int {
	return []int{low - 1, low - 2, low - 64, low - 256, math.MinInt32, math.MinInt, math.MinInt + 1,
		high + 1, high + 2, high + 64, high + 256, math.MaxInt32, math.MaxUint32 + 1, math.MaxInt - 1, math.MaxInt}
}

// changed answers b with the byte at that place otherwise.
func changed(b string, at int) string {
	x := []byte(b)
	x[at] ^= 1 << (at % 8)
	return string(x)
}

// spoil hands on what comes of a proof that is cut short, has hashes left over, or is otherwise in one hash or byte.
func spoil(proof []string, hand func(what string, proof []string)) {
	for i := range proof {
		hand("cut at its end", proof[:i])
		hand("cut at its beginning", proof[i+1:])
		hand("without one", slices.Delete(slices.Clone(proof), i, i+1))
		for _, other := range []string{"", strings.Repeat("\x00", 32), proof[i][:31], proof[i] + "\x00", h(proof[i])} {
			x := slices.Clone(proof)
			x[i] = other
			hand("with another one", x)
		}
		x := slices.Clone(proof)
		x[i] = changed(x[i], (7*i+len(proof))%32)
		hand("with another byte", x)
		if i > 0 {
			x := slices.Clone(proof)
			x[i-1], x[i] = x[i], x[i-1]
			hand("changed about", x)
		}
	}
	for _, more := range []string{"", strings.Repeat("\x00", 32), h("more")} {
		for i := range len(proof) + 1 {
			hand("with one more", slices.Insert(slices.Clone(proof), i, more))
		}
		hand("with two more", slices.Concat(proof, []string{more, more}))
	}
	if len(proof) > 0 {
		hand("twice", slices.Concat(proof, proof))
	}
}

// The tests of P4.1: leaves and roots.

func TestLeaf(t *testing.T) {
	for _, b := range []string{"", "\x00", "\x01", "a", "leaf", "\xff\xfe\x80", h("a"), h("a") + h("b"), strings.Repeat("x", 200), strings.Repeat("y", 70000)} {
		if x := Leaf(table, b); x != h("\x00", b) || len(x) != 32 {
			t.Errorf("leaf of %d bytes: %x", len(b), x)
		}
	}
}

// TestKnownRoots holds leaves and roots against such as were reckoned elsewhere.
func TestKnownRoots(t *testing.T) {
	var l []string
	for _, b := range []string{"", "\x00", "\x10", "\x20\x21", "\x30\x31", "@ABC", "PQRSTUVW", "`abcdefghijklmno"} {
		l = append(l, Leaf(table, b))
	}
	for n, want := range []string{
		"e3b0c44298fc1c149afbf4c8996fb92427ae41e4649b934ca495991b7852b855",
		"6e340b9cffb37a989ca544e6bb780a2c78901d3fb33738768511a30617afa01d",
		"fac54203e7cc696cf0dfcb42c92a1d9dbaf70ad9e621f4bd8d98662f00e3c125",
		"aeb6bcfe274b70a14fb067a5e5578264db0fa9b51af5e0ba159158f329e06e77",
		"d37ee418976dd95753c1c73862b9398fa2a2cf9b4ff0fdfe8b30cd95209614b7",
		"4e3bbb1f7b478dcfe71fb631631519a3bca12c9aefca1612bfce4c13a86264d4",
		"76e67dadbcdf1e10e1b74ddc608abd2f98dfb16fbce75277b5232a127f2087ef",
		"ddb89be403809e325750d3d263cd78929c2942b7942a34b77e122c9594a74c8c",
		"5dc9da79a70659a9ad559cb701ded9a2ab9d823aad2f4960cfe370eff4604328",
	} {
		if r := hex.EncodeToString([]byte(Root(table, l[:n]))); r != want {
			t.Errorf("root of %d: %s, want %s", n, r, want)
		}
	}
}

func TestRootOfNone(t *testing.T) {
	if Root(table, nil) != h() || Root(table, []string{}) != h() {
		t.Errorf("%x, %x", Root(table, nil), Root(table, []string{}))
	}
}

func TestRootOfOne(t *testing.T) {
	for _, x := range []string{h("a"), "", "a", strings.Repeat("x", 33)} {
		if r := Root(table, []string{x}); r != x {
			t.Errorf("%q: %q", x, r)
		}
	}
}

func TestRootOfEachNumber(t *testing.T) {
	l := hashes(1000)
	for _, n := range append(sizesUpTo(130), 255, 256, 257, 1000) {
		if r := Root(table, l[:n]); r != rootWant(l[:n]) {
			t.Errorf("of %d: %x", n, r)
		}
	}
	same := slices.Repeat([]string{h("same")}, 64)
	for n := range 65 {
		if r := Root(table, same[:n]); r != rootWant(same[:n]) {
			t.Errorf("of %d that are the same: %x", n, r)
		}
	}
}

// sizesUpTo answers each number from 0 to n.
func sizesUpTo(n int) []int {
	var l []int
	for i := range n + 1 {
		l = append(l, i)
	}
	return l
}

// oddHashes answers hashes that are of any lengths, 32 bytes among them.
func oddHashes() []string {
	return []string{"", "a", h("b"), strings.Repeat("c", 31), strings.Repeat("d", 33), "", h("e") + h("f"), "\x01", h("g")}
}

func TestHashesOfOtherLengths(t *testing.T) {
	l := oddHashes()
	for n := 1; n <= len(l); n++ {
		if r := Root(table, l[:n]); r != rootWant(l[:n]) {
			t.Errorf("root of %d: %x", n, r)
		}
		for i := range n {
			if p, e := Inclusion(table, l[:n], i); e != api.OK || !slices.Equal(p, inclusionWant(l[:n], i)) {
				t.Errorf("inclusion of %d of %d: %q, %v", i, n, p, e)
			}
			if p, e := Consistency(table, l[:n], i+1); e != api.OK || !slices.Equal(p, consistencyWant(l[:n], i+1, true)) {
				t.Errorf("consistency of %d of %d: %q, %v", i+1, n, p, e)
			}
		}
	}
}

// The tests of P4.1: proofs.

func TestInclusionOfEachLeaf(t *testing.T) {
	l := hashes(130)
	for _, n := range append(sizesUpTo(64), 65, 130) {
		for i := range n {
			p, e := Inclusion(table, l[:n], i)
			if e != api.OK || !slices.Equal(p, inclusionWant(l[:n], i)) {
				t.Errorf("%d of %d: %x, %v", i, n, p, e)
			}
		}
	}
}

func TestInclusionOfNoLeaf(t *testing.T) {
	l := hashes(64)
	for _, n := range sizesUpTo(64) {
		for _, i := range outside(0, n-1) {
			if p, e := Inclusion(table, l[:n], i); e != api.ErrRange || len(p) != 0 {
				t.Errorf("%d of %d: %x, %v", i, n, p, e)
			}
		}
	}
}

func TestConsistencyOfEachBeginning(t *testing.T) {
	l := hashes(130)
	for _, n := range append(sizesUpTo(64), 65, 130) {
		for m := 1; m <= n; m++ {
			p, e := Consistency(table, l[:n], m)
			if e != api.OK || !slices.Equal(p, consistencyWant(l[:n], m, true)) {
				t.Errorf("%d of %d: %x, %v", m, n, p, e)
			}
		}
		if p, e := Consistency(table, l[:n], n); n > 0 && (e != api.OK || len(p) != 0) {
			t.Errorf("all of %d: %x, %v", n, p, e)
		}
	}
}

func TestConsistencyOfNoBeginning(t *testing.T) {
	l := hashes(64)
	for _, n := range sizesUpTo(64) {
		for _, m := range outside(1, n) {
			if p, e := Consistency(table, l[:n], m); e != api.ErrRange || len(p) != 0 {
				t.Errorf("%d of %d: %x, %v", m, n, p, e)
			}
		}
	}
}

func TestExamples(t *testing.T) {
	l := hashes(7)
	ab, cd := h("\x01", l[0], l[1]), h("\x01", l[2], l[3])
	if p, _ := Inclusion(table, l[:3], 2); !slices.Equal(p, []string{ab}) {
		t.Errorf("the third of three: %x", p)
	}
	if p, _ := Consistency(table, l[:5], 3); !slices.Equal(p, []string{l[2], l[3], ab, l[4]}) {
		t.Errorf("3 of 5: %x", p)
	}
	if p, _ := Consistency(table, l[:5], 4); !slices.Equal(p, []string{l[4]}) {
		t.Errorf("4 of 5: %x", p)
	}
	if p, _ := Consistency(table, l, 6); !slices.Equal(p, []string{h("\x01", l[4], l[5]), l[6], h("\x01", ab, cd)}) {
		t.Errorf("6 of 7: %x", p)
	}
}

// The tests of P4.3: proofs hold.

func TestEachProofThatIsMadeHolds(t *testing.T) {
	l := hashes(api.MaxLog)
	roots := beginnings(l)
	for n := 1; n <= api.MaxLog; n++ {
		for i := range n {
			p, e := Inclusion(table, l[:n], i)
			if e != api.OK || !Included(table, l[i], i, n, p, Root(table, l[:n])) || !Included(table, l[i], i, n, p, roots[n]) {
				t.Errorf("inclusion of %d of %d", i, n)
			}
			p, e = Consistency(table, l[:n], i+1)
			if e != api.OK || !Consistent(table, i+1, n, Root(table, l[:i+1]), Root(table, l[:n]), p) || !Consistent(table, i+1, n, roots[i+1], roots[n], p) {
				t.Errorf("consistency of %d of %d", i+1, n)
			}
		}
	}
}

// The tests of P4.2: Included.

func TestIncludedOfSpoiltProofs(t *testing.T) {
	l := hashes(64)
	for _, n := range sizes() {
		root := rootWant(l[:n])
		for i := range n {
			spoil(inclusionWant(l[:n], i), func(what string, p []string) {
				if Included(table, l[i], i, n, p, root) || includedWant(l[i], i, n, p, root) {
					t.Errorf("%d of %d, %s", i, n, what)
				}
			})
		}
	}
}

func TestIncludedWithAnyByteOtherwise(t *testing.T) {
	l := hashes(7)
	root := rootWant(l)
	for i := range l {
		proof := inclusionWant(l, i)
		for at := range 32 {
			if Included(table, changed(l[i], at), i, 7, proof, root) {
				t.Errorf("leaf %d, its byte %d", i, at)
			}
			if Included(table, l[i], i, 7, proof, changed(root, at)) {
				t.Errorf("leaf %d, the root's byte %d", i, at)
			}
			for j := range proof {
				p := slices.Clone(proof)
				p[j] = changed(p[j], at)
				if Included(table, l[i], i, 7, p, root) {
					t.Errorf("leaf %d, the byte %d of the hash %d", i, at, j)
				}
			}
		}
	}
}

func TestIncludedUnderAnotherRoot(t *testing.T) {
	l := hashes(64)
	roots := beginnings(l)
	for _, n := range sizes() {
		for i := range n {
			p := inclusionWant(l[:n], i)
			for other, root := range roots {
				if Included(table, l[i], i, n, p, root) != (other == n) {
					t.Errorf("%d of %d under the root of %d", i, n, other)
				}
			}
			for _, root := range []string{"", roots[n][:31], roots[n] + "\x00", l[i] + "x"} {
				if Included(table, l[i], i, n, p, root) {
					t.Errorf("%d of %d under %q", i, n, root)
				}
			}
		}
	}
}

func TestIncludedOfAnotherLeaf(t *testing.T) {
	l := hashes(64)
	for _, n := range sizes() {
		root := rootWant(l[:n])
		for i := range n {
			p := inclusionWant(l[:n], i)
			for other := range n {
				if Included(table, l[other], i, n, p, root) != (other == i) {
					t.Errorf("%d in the place of %d of %d", other, i, n)
				}
			}
		}
	}
}

// sidesWant tells on which side each hash of an inclusion proof stands: what places of unlike sizes may have in common.
func sidesWant(i, n int) string {
	if n == 1 {
		return ""
	}
	if k := greatest(n); i >= k {
		return sidesWant(i-k, n-k) + "l"
	}
	return sidesWant(i, greatest(n)) + "r"
}

func TestIncludedOfAnotherPlaceOrSize(t *testing.T) {
	l := hashes(12)
	for n := range len(l) + 1 {
		root := rootWant(l[:n])
		for i := range n {
			p := inclusionWant(l[:n], i)
			for size := -1; size <= 20; size++ {
				for place := -1; place <= 20; place++ {
					want := place >= 0 && place < size && sidesWant(place, size) == sidesWant(i, n)
					if Included(table, l[i], place, size, p, root) != want {
						t.Errorf("the proof of %d of %d, for %d of %d: %v", i, n, place, size, !want)
					}
				}
			}
		}
	}
}

func TestIncludedOfAnotherPlaceOfTheSameSize(t *testing.T) {
	l := hashes(64)
	for _, n := range sizes() {
		root := rootWant(l[:n])
		for i := range n {
			p := inclusionWant(l[:n], i)
			for place := range n {
				if Included(table, l[i], place, n, p, root) != (place == i) {
					t.Errorf("the proof of %d of %d, for %d", i, n, place)
				}
			}
		}
	}
}

func TestIncludedOfPlacesThatAreNot(t *testing.T) {
	l := hashes(64)
	for _, n := range append(sizes(), 0) {
		root := rootWant(l[:n])
		for _, i := range outside(0, n-1) {
			for _, p := range [][]string{nil, {root}, {root, root}, make([]string, 6)} {
				if Included(table, root, i, n, p, root) {
					t.Errorf("%d of %d, %d hashes", i, n, len(p))
				}
			}
			if n > 0 && (Included(table, l[0], i, n, inclusionWant(l[:n], 0), root) || Included(table, l[n-1], i, n, inclusionWant(l[:n], n-1), root)) {
				t.Errorf("%d of %d", i, n)
			}
		}
	}
	for _, n := range []int{0, -1, -2, -64, math.MinInt32, math.MinInt} {
		for _, i := range []int{0, 1, -1, n, n - 1, n + 1, math.MaxInt, math.MinInt} {
			if Included(table, l[0], i, n, nil, l[0]) {
				t.Errorf("%d of %d", i, n)
			}
		}
	}
}

func TestIncludedOfTooMany(t *testing.T) {
	l := hashes(130)
	for _, n := range []int{65, 66, 96, 127, 128, 129, 130} {
		root := rootWant(l[:n])
		for i := range n {
			p := inclusionWant(l[:n], i)
			if !includedWant(l[i], i, n, p, root) {
				t.Fatalf("%d of %d is no proof", i, n)
			}
			if Included(table, l[i], i, n, p, root) {
				t.Errorf("%d of %d", i, n)
			}
		}
	}
	for _, n := range []int{math.MaxInt32, math.MaxInt32 + 1, math.MaxUint32 + 2, math.MaxInt} {
		for _, i := range []int{0, 1, n - 1} {
			if Included(table, l[0], i, n, nil, l[0]) || Included(table, l[0], i, n, l[1:65], l[0]) {
				t.Errorf("%d of %d", i, n)
			}
		}
	}
}

func TestIncludedTakesHashesAsTheyAre(t *testing.T) {
	l := oddHashes()
	for n := 1; n <= len(l); n++ {
		for i := range n {
			if !Included(table, l[i], i, n, inclusionWant(l[:n], i), rootWant(l[:n])) {
				t.Errorf("%d of %d", i, n)
			}
		}
	}
	if !Included(table, "", 0, 1, nil, "") || Included(table, "", 0, 1, nil, "x") || Included(table, "x", 0, 1, nil, "") {
		t.Error("one that is empty")
	}
	// Where one ends and the next begins isn't to be seen in the root.
	root := h("\x01", "abc")
	for cut := range 4 {
		if !Included(table, "abc"[:cut], 0, 2, []string{"abc"[cut:]}, root) || !Included(table, "abc"[cut:], 1, 2, []string{"abc"[:cut]}, root) {
			t.Errorf("cut at %d", cut)
		}
	}
	if Included(table, "abc", 0, 1, nil, root) || Included(table, "abc", 0, 2, nil, root) {
		t.Error("one hash too few")
	}
}

// The tests of P4.2: Consistent.

func TestConsistentOfSpoiltProofs(t *testing.T) {
	l := hashes(64)
	roots := beginnings(l)
	for _, n := range sizes() {
		for m := 1; m <= n; m++ {
			spoil(consistencyWant(l[:n], m, true), func(what string, p []string) {
				if Consistent(table, m, n, roots[m], roots[n], p) || consistentWant(m, n, roots[m], roots[n], p) {
					t.Errorf("%d of %d, %s", m, n, what)
				}
			})
		}
	}
}

func TestConsistentWithAnyByteOtherwise(t *testing.T) {
	l := hashes(7)
	roots := beginnings(l)
	for m := 1; m <= 7; m++ {
		proof := consistencyWant(l, m, true)
		for at := range 32 {
			if Consistent(table, m, 7, changed(roots[m], at), roots[7], proof) {
				t.Errorf("%d, the first root's byte %d", m, at)
			}
			if Consistent(table, m, 7, roots[m], changed(roots[7], at), proof) {
				t.Errorf("%d, the second root's byte %d", m, at)
			}
			for j := range proof {
				p := slices.Clone(proof)
				p[j] = changed(p[j], at)
				if Consistent(table, m, 7, roots[m], roots[7], p) {
					t.Errorf("%d, the byte %d of the hash %d", m, at, j)
				}
			}
		}
	}
}

func TestConsistentUnderOtherRoots(t *testing.T) {
	l := hashes(64)
	roots := beginnings(l)
	for _, n := range sizes() {
		for m := 1; m <= n; m++ {
			p := consistencyWant(l[:n], m, true)
			for other, root := range roots {
				if m < n && Consistent(table, m, n, root, roots[n], p) != (other == m) || Consistent(table, m, n, roots[m], root, p) != (other == n) {
					t.Errorf("%d of %d with the root of %d", m, n, other)
				}
			}
			for _, root := range []string{"", roots[m][:31], roots[m] + "\x00", h("other")} {
				if Consistent(table, m, n, root, roots[n], p) || Consistent(table, m, n, roots[m], root, p) {
					t.Errorf("%d of %d with %q", m, n, root)
				}
			}
			if m < n && Consistent(table, m, n, roots[n], roots[m], p) {
				t.Errorf("%d of %d with the roots changed about", m, n)
			}
		}
	}
}

func TestConsistentOfAllOfThem(t *testing.T) {
	for n := 1; n <= api.MaxLog; n++ {
		a, b := h("a"), h("b")
		for _, c := range []struct {
			first, second string
			proof         []string
			want          bool
		}{
			{a, a, nil, true},
			{a, a, []string{}, true},
			{"", "", nil, true},
			{"x", "x", nil, true},
			{a, b, nil, false},
			{b, a, nil, false},
			{a, "", nil, false},
			{"", a, nil, false},
			{a, a, []string{a}, false},
			{a, a, []string{""}, false},
			{a, a, []string{b}, false},
			{a, a, []string{a, a}, false},
			{a, b, []string{a}, false},
			{a, b, []string{b}, false},
			{a, b, []string{a, b}, false},
			{a, h("\x01", a, b), []string{b}, false},
			{a, h("\x01", b, a), []string{b}, false},
		} {
			if Consistent(table, n, n, c.first, c.second, c.proof) != c.want {
				t.Errorf("%d of %d, %x and %x, %d hashes: %v", n, n, c.first, c.second, len(c.proof), !c.want)
			}
		}
	}
}

// TestConsistentOfAnotherPlaceOrSize holds each proof against each two sizes.
func TestConsistentOfAnotherPlaceOrSize(t *testing.T) {
	l := hashes(12)
	roots := beginnings(l)
	for n := 1; n <= len(l); n++ {
		for m := 1; m <= n; m++ {
			p := consistencyWant(l[:n], m, true)
			for size := -1; size <= 20; size++ {
				for place := -1; place <= 20; place++ {
					want := place >= 1 && place <= size && consistentWant(place, size, roots[m], roots[n], p)
					if Consistent(table, place, size, roots[m], roots[n], p) != want {
						t.Errorf("the proof of %d of %d, for %d of %d: %v", m, n, place, size, !want)
					}
				}
			}
		}
	}
}

func TestConsistentOfAnotherBeginningOfTheSameSize(t *testing.T) {
	l := hashes(64)
	roots := beginnings(l)
	for _, n := range sizes() {
		for m := 1; m <= n; m++ {
			p := consistencyWant(l[:n], m, true)
			for other := 1; other <= n; other++ {
				if Consistent(table, other, n, roots[other], roots[n], p) != (other == m) {
					t.Errorf("the proof of %d of %d, for %d", m, n, other)
				}
			}
		}
	}
}

func TestConsistentOfBeginningsThatAreNot(t *testing.T) {
	l := hashes(64)
	for _, n := range append(sizes(), 0) {
		root := rootWant(l[:n])
		for _, m := range outside(1, n) {
			for _, p := range [][]string{nil, {root}, {root, root}, make([]string, 6)} {
				if Consistent(table, m, n, root, root, p) || Consistent(table, m, n, h(), root, p) {
					t.Errorf("%d of %d, %d hashes", m, n, len(p))
				}
			}
		}
	}
	for _, n := range []int{0, -1, -2, -64, math.MinInt32, math.MinInt} {
		for _, m := range []int{0, 1, -1, n, n - 1, n + 1, math.MaxInt, math.MinInt} {
			if Consistent(table, m, n, h(), h(), nil) {
				t.Errorf("%d of %d", m, n)
			}
		}
	}
}

func TestConsistentOfTooMany(t *testing.T) {
	l := hashes(130)
	roots := beginnings(l)
	for _, n := range []int{65, 66, 96, 127, 128, 129, 130} {
		for m := 1; m <= n; m++ {
			p := consistencyWant(l[:n], m, true)
			if !consistentWant(m, n, roots[m], roots[n], p) {
				t.Fatalf("%d of %d is no proof", m, n)
			}
			if Consistent(table, m, n, roots[m], roots[n], p) {
				t.Errorf("%d of %d", m, n)
			}
		}
	}
	for _, n := range []int{math.MaxInt32, math.MaxInt32 + 1, math.MaxUint32 + 2, math.MaxInt} {
		for _, m := range []int{1, 2, n - 1, n} {
			if Consistent(table, m, n, l[0], l[0], nil) || Consistent(table, m, n, l[0], l[0], l[:64]) {
				t.Errorf("%d of %d", m, n)
			}
		}
	}
}

func TestConsistentTakesHashesAsTheyAre(t *testing.T) {
	l := oddHashes()
	roots := beginnings(l)
	for n := 1; n <= len(l); n++ {
		for m := 1; m <= n; m++ {
			if !Consistent(table, m, n, roots[m], roots[n], consistencyWant(l[:n], m, true)) {
				t.Errorf("%d of %d", m, n)
			}
		}
	}
	for cut := range 4 {
		if !Consistent(table, 1, 2, "abc"[:cut], h("\x01", "abc"), []string{"abc"[cut:]}) {
			t.Errorf("cut at %d", cut)
		}
	}
	if !Consistent(table, 3, 4, h("\x01", "xy"), h("\x01", "x", h("\x01", "yz")), []string{"y", "z", "x"}) {
		t.Error("3 of 4")
	}
}

// The tests of R5.

func TestWhatIsHandedInStays(t *testing.T) {
	l := hashes(13)
	for n := range 11 {
		room := slices.Clone(l)
		Root(table, room[:n])
		for i := -1; i <= n+1; i++ {
			Inclusion(table, room[:n], i)
			Consistency(table, room[:n], i)
			Included(table, l[0], i, n, room[:3], l[1])
			Consistent(table, i, n, l[0], l[1], room[:3])
		}
		if !slices.Equal(room, l) {
			t.Fatalf("of %d: %x", n, room)
		}
	}
}

func TestProofsAreNewMemory(t *testing.T) {
	l := hashes(11)
	for n := 1; n <= len(l); n++ {
		for i := range n {
			room := slices.Clone(l)
			a, _ := Inclusion(table, room[:n], i)
			b, _ := Consistency(table, room[:n], i+1)
			for _, p := range [][]string{a[:cap(a)], b[:cap(b)]} {
				for j := range p {
					p[j] = "changed"
				}
			}
			again, _ := Inclusion(table, room[:n], i)
			other, _ := Consistency(table, room[:n], i+1)
			if !slices.Equal(room, l) || !slices.Equal(again, inclusionWant(l[:n], i)) || !slices.Equal(other, consistencyWant(l[:n], i+1, true)) {
				t.Errorf("%d of %d", i, n)
			}
		}
	}
}

// FuzzHeld holds Included and Consistent against the oracle, of proofs cut out of any bytes.
func FuzzHeld(f *testing.F) {
	f.Add(2, 3, "a", "b", "cde")
	f.Add(3, 4, h("\x01", "xy"), h("\x01", "x", h("\x01", "yz")), "yzx")
	f.Fuzz(func(t *testing.T, i, n int, first, second, hashes string) {
		proof := strings.Split(hashes, "")
		inside := n <= 64 && i < n
		if got := Included(table, first, i, n, proof, second); got != (inside && i >= 0 && includedWant(first, i, n, proof, second)) {
			t.Errorf("included: %v", got)
		}
		if got := Consistent(table, i, n, first, second, proof); got != ((inside || i == n && n <= 64) && i >= 1 && consistentWant(i, n, first, second, proof)) {
			t.Errorf("consistent: %v", got)
		}
	})
}
