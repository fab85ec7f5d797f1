package ranges

import (
	"encoding/hex"
	"math"
	"slices"
	"strconv"
	"strings"
	"testing"

	"annalist/api"
	"annalist/merkle"
	"annalist/sha"
)

// The oracle says what the chapter's words say, of sha alone: nothing of this package or of layer 4 is called in it.

var table = sha.Make()

// h is H of the parts, one behind the other.
func h(parts ...string) string {
	return sha.Sum(table, strings.Join(parts, ""))
}

// rootWant is layer 4's root.
func rootWant(l []string) string {
	if len(l) == 0 {
		return h()
	}
	if len(l) == 1 {
		return l[0]
	}
	k := 1
	for 2*k < len(l) {
		k *= 2
	}
	return h("\x01", rootWant(l[:k]), rootWant(l[k:]))
}

// stretchesWant takes the powers of two from the lowest on, and turns them about.
func stretchesWant(n int) []int {
	var l []int
	power := 1
	for n > 0 {
		if n%2 == 1 {
			l = append(l, power)
		}
		n, power = n/2, power*2
	}
	slices.Reverse(l)
	return l
}

func rangeWant(l []string) Range {
	r := Range{Size: len(l)}
	at := 0
	for _, length := range stretchesWant(len(l)) {
		r.L = append(r.L, rootWant(l[at:at+length]))
		at += length
	}
	return r
}

// hashes answers n of them, no two alike.
func hashes(n int) []string {
	var l []string
	for i := range n {
		l = append(l, h("\x00", "leaf "+strconv.Itoa(i)))
	}
	return l
}

// great answers a range of that size, of hashes that no leaves have.
func great(size int, name string) Range {
	r := Range{Size: size}
	for i := range stretchesWant(size) {
		r.L = append(r.L, h(name+" "+strconv.Itoa(i)))
	}
	return r
}

func same(a, b Range) bool {
	return a.Size == b.Size && slices.Equal(a.L, b.L)
}

// sizes answers numbers of leaves: all small ones, and those about powers of two.
func sizes() []int {
	l := []int{127, 128, 129, 130, 255, 256, 257, 500}
	for n := 70; n >= 0; n-- {
		l = slices.Insert(l, 0, n)
	}
	return l
}

// The tests of P6.1: Of.

func TestOfEachSize(t *testing.T) {
	l := hashes(500)
	for _, n := range sizes() {
		r := Of(table, l[:n])
		if !same(r, rangeWant(l[:n])) || !Right(r) {
			t.Errorf("of %d: %d, %x", n, r.Size, r.L)
		}
	}
}

func TestOfNone(t *testing.T) {
	for _, l := range [][]string{nil, {}} {
		r := Of(table, l)
		if r.Size != 0 || len(r.L) != 0 || !Right(r) || Root(table, r) != h() {
			t.Errorf("%d, %x", r.Size, r.L)
		}
	}
}

func TestOfOne(t *testing.T) {
	leaf := h("\x00", "one")
	r := Of(table, []string{leaf})
	if !same(r, Range{1, []string{leaf}}) || !Right(r) || Root(table, r) != leaf {
		t.Errorf("%d, %x", r.Size, r.L)
	}
}

func TestOfPowersOfTwoIsOneRoot(t *testing.T) {
	l := hashes(512)
	for n := 1; n <= 512; n *= 2 {
		if r := Of(table, l[:n]); !same(r, Range{n, []string{rootWant(l[:n])}}) {
			t.Errorf("of %d: %d, %x", n, r.Size, r.L)
		}
	}
}

func TestExample(t *testing.T) {
	l := hashes(5)
	if r := Of(table, l); !same(r, Range{5, []string{rootWant(l[:4]), l[4]}}) {
		t.Errorf("%d, %x", r.Size, r.L)
	}
}

// TestKnown holds ranges and roots against such as were reckoned elsewhere.
func TestKnown(t *testing.T) {
	const (
		a       = "022a6979e6dab7aa5ae4c3e5e45f7e977112a7e63593820dbec1ec738a24f93c"
		ab      = "b137985ff484fb600db93107c77b0365c80d78f5b429ded0fd97361d077999eb"
		c       = "597fcb31282d34654c200d3418fca5705c648ebf326ec73d8ddef11841f876d8"
		abc     = "36642e73c2540ab121e3a6bf9545b0a24982cd830eb13d3cd19de3ce6c021ec1"
		abcd    = "33376a3bd63e9993708a84ddfe6c28ae58b83505dd1fed711bd924ec5a6239f0"
		e       = "2824a7ccda2caa720c85c9fba1e8b5b735eecfdb03878e4f8dfe6c3625030bc4"
		abcde   = "fe14a5426fbd70c0fa73f52342afed0da0bd23c4838662ccf6b88a3070ead97b"
		ef      = "918566184c9d5be235ad2b6dd60828f5cec14fc409f02f7db8647009ec6da588"
		abcdef  = "e069fc12e231ccfd4516bf1617945fb3ccd5cc8910d92d6265289f088f777fdd"
		g       = "5aeb196e83598231b45c61f3e0c5a0fda49b0d4f86a6db5f893aacccf514fa99"
		abcdefg = "4ae191939f548d9934740b88dea2c5cb89bb8870fc4505cd79dec6bbfaaee9cb"
		nothing = "e3b0c44298fc1c149afbf4c8996fb92427ae41e4649b934ca495991b7852b855"
	)
	var l []string
	for _, b := range strings.Split("abcdefg", "") {
		l = append(l, h("\x00", b))
	}
	added := Range{}
	for n, want := range []struct {
		stretches []string
		root      string
	}{
		{nil, nothing},
		{[]string{a}, a},
		{[]string{ab}, ab},
		{[]string{ab, c}, abc},
		{[]string{abcd}, abcd},
		{[]string{abcd, e}, abcde},
		{[]string{abcd, ef}, abcdef},
		{[]string{abcd, ef, g}, abcdefg},
	} {
		if n > 0 {
			added = Add(table, added, l[n-1])
		}
		for _, r := range []Range{Of(table, l[:n]), added} {
			if r.Size != n || hex.EncodeToString([]byte(strings.Join(r.L, ""))) != strings.Join(want.stretches, "") {
				t.Errorf("of %d: %d, %x", n, r.Size, r.L)
			}
			if root := hex.EncodeToString([]byte(Root(table, r))); root != want.root {
				t.Errorf("root of %d: %s", n, root)
			}
		}
	}
}

// The tests of P6.1: Stretches.

func TestStretches(t *testing.T) {
	for n := range 3000 {
		if l := Stretches(n); !slices.Equal(l, stretchesWant(n)) {
			t.Errorf("of %d: %v", n, l)
		}
	}
	for n, want := range map[int][]int{
		1: {1}, 2: {2}, 3: {2, 1}, 4: {4}, 5: {4, 1}, 6: {4, 2}, 7: {4, 2, 1}, 8: {8}, 100: {64, 32, 4},
		1 << 30: {1 << 30}, 1<<30 + 1: {1 << 30, 1}, 1<<40 + 1<<31 + 6: {1 << 40, 1 << 31, 4, 2}, 1 << 62: {1 << 62},
	} {
		if l := Stretches(n); !slices.Equal(l, want) {
			t.Errorf("of %d: %v", n, l)
		}
	}
}

func TestStretchesOfPowersOfTwo(t *testing.T) {
	for i := range 63 {
		n := 1 << i
		if l := Stretches(n); !slices.Equal(l, []int{n}) {
			t.Errorf("of 2^%d: %v", i, l)
		}
		if l := Stretches(n - 1); len(l) != i || !slices.Equal(l, stretchesWant(n-1)) {
			t.Errorf("of 2^%d - 1: %v", i, l)
		}
	}
	l := Stretches(math.MaxInt)
	if len(l) != 63 || l[0] != 1<<62 || l[62] != 1 {
		t.Errorf("of the greatest: %v", l)
	}
}

func TestStretchesBelowOne(t *testing.T) {
	for _, n := range []int{0, -1, -2, -3, -4, -1 << 30, math.MinInt32, math.MinInt + 1, math.MinInt} {
		if l := Stretches(n); len(l) != 0 {
			t.Errorf("of %d: %v", n, l)
		}
	}
}

// The tests of P6.1: Right.

func TestRight(t *testing.T) {
	for _, size := range []int{0, 1, 2, 3, 4, 5, 6, 7, 8, 9, 63, 64, 65, 1000, 1 << 29, 1<<30 - 2, 1<<30 - 1, 1 << 30} {
		r := great(size, "r")
		if !Right(r) {
			t.Errorf("of %d", size)
		}
		if Right(Range{size, slices.Concat(r.L, []string{h("more")})}) {
			t.Errorf("of %d, one hash more", size)
		}
		if size > 0 && (Right(Range{size, r.L[1:]}) || Right(Range{size, nil})) {
			t.Errorf("of %d, too few hashes", size)
		}
		for i := range r.L {
			for _, other := range []string{"", "x", r.L[i][:31], r.L[i] + "\x00", r.L[i] + r.L[i]} {
				l := slices.Clone(r.L)
				l[i] = other
				if Right(Range{size, l}) {
					t.Errorf("of %d, hash %d is of %d bytes", size, i, len(other))
				}
			}
		}
	}
	if !Right(Range{}) || !Right(Range{0, []string{}}) {
		t.Error("of none")
	}
}

func TestRightTakesAnyBytes(t *testing.T) {
	for _, x := range []string{strings.Repeat("\x00", 32), strings.Repeat("\xff", 32), strings.Repeat("é", 16)} {
		if !Right(Range{3, []string{x, x}}) {
			t.Errorf("%q", x)
		}
	}
	if Right(Range{1, []string{strings.Repeat("é", 32)}}) {
		t.Error("32 letters of 64 bytes")
	}
}

func TestRightOfOtherSizes(t *testing.T) {
	l := hashes(64)
	for _, size := range []int{-1, -2, -3, -1 << 30, math.MinInt32, math.MinInt, math.MinInt + 1,
		1<<30 + 1, 1<<30 + 2, 1 << 31, 1 << 32, 1<<32 + 1, 1 << 62, math.MaxInt32, math.MaxInt} {
		for n := range 65 {
			if Right(Range{size, l[:n]}) {
				t.Errorf("of %d, with %d hashes", size, n)
			}
		}
	}
}

// The tests of P6.1: Add.

func TestAddToEachSize(t *testing.T) {
	l := hashes(501)
	for _, n := range sizes() {
		r := Add(table, rangeWant(l[:n]), l[n])
		if !same(r, rangeWant(l[:n+1])) || !Right(r) {
			t.Errorf("to %d: %d, %x", n, r.Size, r.L)
		}
	}
}

func TestAddToNone(t *testing.T) {
	leaf := h("\x00", "one")
	for _, r := range []Range{{}, {0, []string{}}, Of(table, nil)} {
		if x := Add(table, r, leaf); !same(x, Range{1, []string{leaf}}) {
			t.Errorf("%d, %x", x.Size, x.L)
		}
	}
}

// TestAddLeavesItsRange: neither the range nor the room behind its hashes is written to, nor is it in the answer.
func TestAddLeavesItsRange(t *testing.T) {
	l := hashes(40)
	for n := range 39 {
		want := rangeWant(l[:n])
		r := roomy(want)
		x := Add(table, r, l[n])
		y := Add(table, r, l[39])
		if !untouched(r, want) {
			t.Errorf("to %d: the range has changed", n)
		}
		if !same(x, rangeWant(l[:n+1])) || y.L[len(y.L)-1] == x.L[len(x.L)-1] {
			t.Errorf("to %d: one answer hangs on the other", n)
		}
		scribble(x)
		if !untouched(r, want) {
			t.Errorf("to %d: the answer is of the range's memory", n)
		}
	}
}

// roomy answers the same range, with spare room behind its hashes in which something stands.
func roomy(r Range) Range {
	l := append(slices.Clone(r.L), "room", "room", "room", "room")
	return Range{r.Size, l[:len(r.L)]}
}

// untouched tells whether a roomy range is still as it was.
func untouched(r, was Range) bool {
	room := r.L[len(r.L) : len(r.L)+4]
	return same(r, was) && slices.Equal(room, []string{"room", "room", "room", "room"})
}

// scribble writes over all the memory of a range.
func scribble(r Range) {
	for i := range r.L[:cap(r.L)] {
		r.L[:cap(r.L)][i] = "scribbled"
	}
}

func TestAddUpToTheGreatest(t *testing.T) {
	full := Range{Size: 1<<30 - 1}
	for i := range 30 {
		full.L = append(full.L, h("stretch "+strconv.Itoa(i)))
	}
	r := Add(table, full, h("\x00", "last"))
	const want = "81bcc199c033a7293b194bd634310085f29071f7183015294b2a97dea544e58d" // reckoned elsewhere
	if r.Size != 1<<30 || len(r.L) != 1 || hex.EncodeToString([]byte(r.L[0])) != want || !Right(r) {
		t.Errorf("%d, %x", r.Size, r.L)
	}
	if Root(table, r) != r.L[0] {
		t.Errorf("%x", Root(table, r))
	}
}

func TestAddToTheGreatest(t *testing.T) {
	r := great(1<<30, "great")
	x := Add(table, r, h("leaf"))
	if !same(x, Range{1<<30 + 1, []string{r.L[0], h("leaf")}}) || Right(x) || Root(table, x) != h("\x01", r.L[0], h("leaf")) {
		t.Errorf("%d, %x", x.Size, x.L)
	}
}

// The tests of P6.1: Root.

func TestRootOfEachSize(t *testing.T) {
	l := hashes(500)
	for _, n := range sizes() {
		if root := Root(table, rangeWant(l[:n])); root != rootWant(l[:n]) || root != merkle.Root(table, l[:n]) {
			t.Errorf("of %d: %x", n, root)
		}
	}
}

func TestRootOfNone(t *testing.T) {
	if Root(table, Range{}) != h() || Root(table, Range{0, []string{}}) != h() {
		t.Errorf("%x, %x", Root(table, Range{}), Root(table, Range{0, []string{}}))
	}
}

func TestRootOfGreatOnes(t *testing.T) {
	for _, size := range []int{1 << 29, 1<<29 + 1, 1<<30 - 1, 1<<30 - 2, 1 << 30} {
		r := great(size, "great")
		want := r.L[len(r.L)-1]
		for i := len(r.L) - 2; i >= 0; i-- {
			want = h("\x01", r.L[i], want)
		}
		if Root(table, r) != want {
			t.Errorf("of %d: %x", size, Root(table, r))
		}
	}
}

// The tests of P6.2.

// TestJoinOfEachTwoSizes: joined are those two of which the second is at most the shortest stretch of the first.
func TestJoinOfEachTwoSizes(t *testing.T) {
	l := hashes(80)
	for n := range 41 {
		for m := range 40 {
			a, b := rangeWant(l[:n]), rangeWant(l[n:n+m])
			r, e := Join(table, a, b)
			if lengths := stretchesWant(n); n > 0 && m > lengths[len(lengths)-1] {
				if e != api.ErrRange || r.Size != 0 || len(r.L) != 0 {
					t.Errorf("%d and %d: %d, %x, %v", n, m, r.Size, r.L, e)
				}
			} else if e != api.OK || !same(r, rangeWant(l[:n+m])) || !Right(r) {
				t.Errorf("%d and %d: %d, %x, %v", n, m, r.Size, r.L, e)
			}
		}
	}
}

func TestJoinToNone(t *testing.T) {
	l := hashes(300)
	for _, m := range []int{0, 1, 2, 3, 7, 8, 63, 64, 65, 256, 300} {
		for _, none := range []Range{{}, {0, []string{}}} {
			if r, e := Join(table, none, rangeWant(l[:m])); e != api.OK || !same(r, rangeWant(l[:m])) {
				t.Errorf("none and %d: %d, %x, %v", m, r.Size, r.L, e)
			}
			if r, e := Join(table, rangeWant(l[:m]), none); e != api.OK || !same(r, rangeWant(l[:m])) {
				t.Errorf("%d and none: %d, %x, %v", m, r.Size, r.L, e)
			}
		}
	}
	b := great(1<<30, "b")
	if r, e := Join(table, Range{}, b); e != api.OK || !same(r, b) {
		t.Errorf("none and the greatest: %d, %x, %v", r.Size, r.L, e)
	}
	b = great(1<<30-1, "b")
	if r, e := Join(table, Range{}, b); e != api.OK || !same(r, b) {
		t.Errorf("none and nearly the greatest: %d, %x, %v", r.Size, r.L, e)
	}
}

// TestJoinOfTheShortest: two stretches of one length are one, and those ahead of it may be carried into it.
func TestJoinOfTheShortest(t *testing.T) {
	l := hashes(256)
	for _, c := range []struct{ n, m, left int }{{1, 1, 1}, {2, 2, 1}, {3, 1, 1}, {4, 4, 1}, {5, 1, 2}, {6, 2, 1}, {7, 1, 1},
		{12, 4, 1}, {20, 4, 2}, {28, 4, 1}, {64, 64, 1}, {96, 32, 1}, {127, 1, 1}, {128, 128, 1}} {
		r, e := Join(table, rangeWant(l[:c.n]), rangeWant(l[c.n:c.n+c.m]))
		if e != api.OK || !same(r, rangeWant(l[:c.n+c.m])) || len(r.L) != c.left {
			t.Errorf("%d and %d: %d, %x, %v", c.n, c.m, r.Size, r.L, e)
		}
		r, e = Join(table, rangeWant(l[:c.n]), rangeWant(l[:c.m+1]))
		if e != api.ErrRange || r.Size != 0 || len(r.L) != 0 {
			t.Errorf("%d and %d: %d, %x, %v", c.n, c.m+1, r.Size, r.L, e)
		}
	}
}

func TestJoinOfGreatOnes(t *testing.T) {
	a, b := great(1<<29, "a"), great(1<<29, "b")
	if r, e := Join(table, a, b); e != api.OK || !same(r, Range{1 << 30, []string{h("\x01", a.L[0], b.L[0])}}) {
		t.Errorf("two halves: %d, %x, %v", r.Size, r.L, e)
	}
	b = great(1<<29-1, "b")
	if r, e := Join(table, a, b); e != api.OK || !same(r, Range{1<<30 - 1, slices.Concat(a.L, b.L)}) {
		t.Errorf("nearly two halves: %d, %x, %v", r.Size, r.L, e)
	}
	b = great(1<<29+1, "b")
	if r, e := Join(table, a, b); e != api.ErrRange || r.Size != 0 || len(r.L) != 0 {
		t.Errorf("more than two halves: %d, %x, %v", r.Size, r.L, e)
	}
	a, b = great(1<<30, "a"), great(1<<30, "b")
	if r, e := Join(table, a, b); e != api.OK || !same(r, Range{1 << 31, []string{h("\x01", a.L[0], b.L[0])}}) {
		t.Errorf("two of the greatest: %d, %x, %v", r.Size, r.L, e)
	}
	a = great(1<<30-1, "a")
	if r, e := Join(table, a, b); e != api.ErrRange || r.Size != 0 || len(r.L) != 0 {
		t.Errorf("the greatest behind one: %d, %x, %v", r.Size, r.L, e)
	}
}

func TestJoinLeavesItsRanges(t *testing.T) {
	l := hashes(80)
	for n := range 33 {
		for m := range 33 {
			wantA, wantB := rangeWant(l[:n]), rangeWant(l[n:n+m])
			a, b := roomy(wantA), roomy(wantB)
			r, _ := Join(table, a, b)
			scribble(r)
			if !untouched(a, wantA) || !untouched(b, wantB) {
				t.Errorf("%d and %d", n, m)
			}
		}
	}
}

// The tests of P6.3.

func TestAddedOneByOne(t *testing.T) {
	l := hashes(300)
	r := Of(table, nil)
	for n := range 300 {
		if !same(r, rangeWant(l[:n])) || !same(r, Of(table, l[:n])) || !Right(r) {
			t.Errorf("of %d: %d, %x", n, r.Size, r.L)
		}
		if Root(table, r) != merkle.Root(table, l[:n]) {
			t.Errorf("root of %d: %x", n, Root(table, r))
		}
		r = Add(table, r, l[n])
	}
}

func TestAddedToEachBeginning(t *testing.T) {
	l := hashes(40)
	for n := range 41 {
		r := Of(table, l[:n])
		for _, leaf := range l[n:] {
			r = Add(table, r, leaf)
		}
		if !same(r, rangeWant(l)) || Root(table, r) != merkle.Root(table, l) {
			t.Errorf("from %d on: %d, %x", n, r.Size, r.L)
		}
	}
}

func TestAddedToWhatWasJoined(t *testing.T) {
	l := hashes(60)
	r, e := Join(table, Of(table, l[:48]), Of(table, l[48:55]))
	for _, leaf := range l[55:] {
		r = Add(table, r, leaf)
	}
	if e != api.OK || !same(r, rangeWant(l)) || Root(table, r) != merkle.Root(table, l) {
		t.Errorf("%d, %x, %v", r.Size, r.L, e)
	}
}

func TestLeavesThatAreTheSame(t *testing.T) {
	l := slices.Repeat([]string{h("same")}, 70)
	r := Range{}
	for n, leaf := range l {
		r = Add(table, r, leaf)
		if !same(r, rangeWant(l[:n+1])) || Root(table, r) != merkle.Root(table, l[:n+1]) {
			t.Errorf("of %d: %d, %x", n+1, r.Size, r.L)
		}
	}
}

// The tests of what holds everywhere.

// TestWrongRangesEnd: of ranges that aren't right nothing is promised but that each call ends and none panics.
func TestWrongRangesEnd(t *testing.T) {
	var wrong []Range
	for _, size := range []int{math.MinInt, math.MinInt + 1, math.MinInt32, -3, -2, -1, 0, 1, 2, 3, 7, 8, 1 << 30, 1<<30 + 1, 1<<31 - 1, 1 << 62, math.MaxInt - 1, math.MaxInt} {
		for _, l := range [][]string{nil, {""}, {"x", "y"}, hashes(1), hashes(3), hashes(70)} {
			wrong = append(wrong, Range{size, l})
		}
	}
	for _, a := range wrong {
		Right(a)
		Root(table, a)
		Add(table, a, "")
		Add(table, a, h("leaf"))
		for _, b := range wrong {
			if r, e := Join(table, a, b); e != api.OK && (r.Size != 0 || len(r.L) != 0) {
				t.Errorf("%d and %d: %d, %x, %v", a.Size, b.Size, r.Size, r.L, e)
			}
		}
	}
}

func TestOfLeavesItsLeaves(t *testing.T) {
	l := hashes(40)
	for n := range 40 {
		given := roomy(Range{n, l[:n]})
		scribble(Of(table, given.L))
		if !untouched(given, Range{n, l[:n]}) {
			t.Errorf("of %d", n)
		}
	}
}
