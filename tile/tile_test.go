package tile

import (
	"encoding/hex"
	"math"
	"slices"
	"strconv"
	"strings"
	"testing"

	"annalist/api"
	"annalist/merkle"
	"annalist/sha"
)

// The oracle says what the chapter's words say, of sha alone: nothing of this package or of layers 4 and 6 is called in it.

var table = sha.Make()

// h is H of the parts, one behind the other.
func h(parts ...string) string {
	return sha.Sum(table, strings.Join(parts, ""))
}

// rootWant is layer 4's root.
func rootWant(l []string) string {
	if len(l) == 0 {
		return h()
	}
	if len(l) == 1 {
		return l[0]
	}
	k := 1
	for 2*k < len(l) {
		k *= 2
	}
	return h("\x01", rootWant(l[:k]), rootWant(l[k:]))
}

// levelsWant builds each level that has a hash of the one below it.
func levelsWant(l []string) [][]string {
	var all [][]string
	for len(l) > 0 {
		all = append(all, l)
		var above []string
		for i := 0; i+4 <= len(l); i += 4 {
			above = append(above, h("\x01", h("\x01", l[i], l[i+1]), h("\x01", l[i+2], l[i+3])))
		}
		l = above
	}
	return all
}

// tilesWant answers all tiles of the leaves' hashes, in Plan's order.
func tilesWant(l []string) []Tile {
	var all []Tile
	levels := levelsWant(l)
	for level := len(levels) - 1; level >= 0; level-- {
		for i := 0; i < len(levels[level]); i += 4 {
			end := min(i+4, len(levels[level]))
			all = append(all, Tile{ID{level, i / 4}, slices.Clone(levels[level][i:end])})
		}
	}
	return all
}

// edgeWant answers those of all tiles that aren't full: none but a level's last one is so.
func edgeWant(l []string) []Tile {
	return slices.DeleteFunc(tilesWant(l), func(x Tile) bool { return len(x.L) == 4 })
}

func ids(l []Tile) []ID {
	var all []ID
	for _, x := range l {
		all = append(all, x.ID)
	}
	return all
}

// hashes answers n of them, no two alike.
func hashes(n int) []string {
	var l []string
	for i := range n {
		l = append(l, h("\x00", "leaf "+strconv.Itoa(i)))
	}
	return l
}

func same(a, b Tile) bool {
	return a.ID == b.ID && slices.Equal(a.L, b.L)
}

// none answers sizes that no log has.
func none() []int {
	return []int{-1, -2, -4, -64, -65, math.MinInt32, math.MinInt, math.MinInt + 1,
		65, 66, 80, 128, 256, 1 << 30, 1 << 32, 1<<32 + 5, math.MaxInt32, math.MaxInt - 1, math.MaxInt}
}

// strange answers levels, or indexes, that no tile has.
func strange() []int {
	return []int{-1, -2, -4, math.MinInt32, math.MinInt, math.MinInt + 1, 17, 64, 1 << 30, 1 << 31, 1 << 32,
		1 << 61, 1 << 62, 1<<62 + 1, 1<<62 - 1, math.MaxInt32, math.MaxInt - 1, math.MaxInt}
}

// The tests of P7.1: Count.

func TestCountOfEachSize(t *testing.T) {
	l := hashes(64)
	for n := range 65 {
		levels := levelsWant(l[:n])
		for level := range 8 {
			want := 0
			if level < len(levels) {
				want = len(levels[level])
			}
			if got := Count(n, level); got != want {
				t.Errorf("of %d, level %d: %d", n, level, got)
			}
		}
	}
}

func TestCountAboutPowersOfFour(t *testing.T) {
	for _, c := range []struct{ n, level, want int }{
		{0, 0, 0}, {1, 0, 1}, {1, 1, 0}, {3, 0, 3}, {3, 1, 0}, {4, 0, 4}, {4, 1, 1}, {4, 2, 0}, {5, 0, 5}, {5, 1, 1},
		{15, 1, 3}, {15, 2, 0}, {16, 0, 16}, {16, 1, 4}, {16, 2, 1}, {16, 3, 0}, {17, 0, 17}, {17, 1, 4}, {17, 2, 1}, {21, 1, 5},
		{63, 0, 63}, {63, 1, 15}, {63, 2, 3}, {63, 3, 0}, {64, 0, 64}, {64, 1, 16}, {64, 2, 4}, {64, 3, 1}, {64, 4, 0},
	} {
		if got := Count(c.n, c.level); got != c.want {
			t.Errorf("of %d, level %d: %d", c.n, c.level, got)
		}
	}
}

func TestCountOfWhatIsNone(t *testing.T) {
	for _, n := range none() {
		for level := range 40 {
			if got := Count(n, level); got != 0 {
				t.Errorf("of %d, level %d: %d", n, level, got)
			}
		}
	}
	for n := range 65 {
		for _, level := range strange() {
			if got := Count(n, level); got != 0 {
				t.Errorf("of %d, level %d: %d", n, level, got)
			}
		}
	}
}

// The tests of P7.1: Width.

func TestWidthOfEachTile(t *testing.T) {
	l := hashes(64)
	for n := range 65 {
		all := tilesWant(l[:n])
		for level := range 6 {
			for index := range 20 {
				id, want := ID{level, index}, 0
				if i := slices.Index(ids(all), id); i >= 0 {
					want = len(all[i].L)
				}
				if got := Width(n, id); got != want {
					t.Errorf("of %d, %v: %d", n, id, got)
				}
			}
		}
	}
}

func TestWidthOfWhatIsNone(t *testing.T) {
	for _, n := range none() {
		for level := range 34 {
			for index := range 4 {
				if got := Width(n, ID{level, index}); got != 0 {
					t.Errorf("of %d, (%d, %d): %d", n, level, index, got)
				}
			}
		}
	}
	for n := range 65 {
		for _, a := range strange() {
			for _, b := range slices.Concat(strange(), []int{0, 1, 2, 3}) {
				if Width(n, ID{a, b}) != 0 || Width(n, ID{b, a}) != 0 {
					t.Errorf("of %d, (%d, %d): %d, %d", n, a, b, Width(n, ID{a, b}), Width(n, ID{b, a}))
				}
			}
		}
	}
}

// The tests of P7.1: Plan and Edge.

func TestPlanAndEdgeOfEachSize(t *testing.T) {
	l := hashes(64)
	for n := range 65 {
		if got := Plan(n); !slices.Equal(got, ids(tilesWant(l[:n]))) {
			t.Errorf("plan of %d: %v", n, got)
		}
		if got := Edge(n); !slices.Equal(got, ids(edgeWant(l[:n]))) {
			t.Errorf("edge of %d: %v", n, got)
		}
	}
}

func TestPlanAndEdgeAboutPowersOfFour(t *testing.T) {
	for _, c := range []struct {
		n, plan int
		edge    []ID
	}{
		{0, 0, nil},
		{1, 1, []ID{{0, 0}}},
		{3, 1, []ID{{0, 0}}},
		{4, 2, []ID{{1, 0}}},
		{5, 3, []ID{{1, 0}, {0, 1}}},
		{8, 3, []ID{{1, 0}}},
		{15, 5, []ID{{1, 0}, {0, 3}}},
		{16, 6, []ID{{2, 0}}},
		{17, 7, []ID{{2, 0}, {0, 4}}},
		{20, 8, []ID{{2, 0}, {1, 1}}},
		{21, 9, []ID{{2, 0}, {1, 1}, {0, 5}}},
		{63, 21, []ID{{2, 0}, {1, 3}, {0, 15}}},
		{64, 22, []ID{{3, 0}}},
	} {
		if got := Plan(c.n); len(got) != c.plan {
			t.Errorf("plan of %d: %v", c.n, got)
		}
		if got := Edge(c.n); !slices.Equal(got, c.edge) {
			t.Errorf("edge of %d: %v", c.n, got)
		}
	}
}

func TestPlanInItsOrder(t *testing.T) {
	want := []ID{{2, 0}, {1, 0}, {1, 1}, {0, 0}, {0, 1}, {0, 2}, {0, 3}, {0, 4}, {0, 5}}
	if got := Plan(21); !slices.Equal(got, want) {
		t.Errorf("%v", got)
	}
}

func TestPlanAndEdgeOfWhatIsNone(t *testing.T) {
	for _, n := range none() {
		if len(Plan(n)) != 0 || len(Edge(n)) != 0 {
			t.Errorf("of %d: %v, %v", n, Plan(n), Edge(n))
		}
	}
}

// TestPlanIsNew: what is written into an answer isn't in the next one.
func TestPlanIsNew(t *testing.T) {
	for n := 1; n <= 64; n++ {
		for _, l := range [][]ID{Plan(n), Edge(n)} {
			for i := range l[:cap(l)] {
				l[:cap(l)][i] = ID{9, 9}
			}
		}
		if slices.Contains(Plan(n), ID{9, 9}) || slices.Contains(Edge(n), ID{9, 9}) {
			t.Errorf("of %d", n)
		}
	}
}

func TestExample(t *testing.T) {
	if got := Plan(5); !slices.Equal(got, []ID{{1, 0}, {0, 0}, {0, 1}}) {
		t.Errorf("plan: %v", got)
	}
	if Width(5, ID{1, 0}) != 1 || Width(5, ID{0, 0}) != 4 || Width(5, ID{0, 1}) != 1 {
		t.Error("widths")
	}
	if got := Edge(5); !slices.Equal(got, []ID{{1, 0}, {0, 1}}) {
		t.Errorf("edge: %v", got)
	}
}

// The tests of P7.1: Cut.

func TestCutOfEachTile(t *testing.T) {
	l := hashes(64)
	for n := range 65 {
		all := tilesWant(l[:n])
		for level := range 5 {
			for index := range 18 {
				id := ID{level, index}
				x, e := Cut(table, l[:n], id)
				if i := slices.Index(ids(all), id); i < 0 {
					if e != api.ErrRange || x.ID != (ID{}) || len(x.L) != 0 {
						t.Errorf("of %d, %v: %v, %v", n, id, x, e)
					}
				} else if e != api.OK || !same(x, all[i]) {
					t.Errorf("of %d, %v: %v, %v", n, id, x, e)
				}
			}
		}
	}
}

func TestCutOfNone(t *testing.T) {
	for _, l := range [][]string{nil, {}} {
		if x, e := Cut(table, l, ID{}); e != api.ErrRange || x.ID != (ID{}) || len(x.L) != 0 {
			t.Errorf("%v, %v", x, e)
		}
	}
}

func TestCutOfWhatIsNone(t *testing.T) {
	for _, l := range [][]string{nil, hashes(1), hashes(5), hashes(64)} {
		for _, a := range strange() {
			for _, b := range slices.Concat(strange(), []int{0, 1, 2, 3}) {
				for _, id := range []ID{{a, b}, {b, a}} {
					if x, e := Cut(table, l, id); e != api.ErrRange || x.ID != (ID{}) || len(x.L) != 0 {
						t.Errorf("of %d, %v: %v, %v", len(l), id, x, e)
					}
				}
			}
		}
	}
}

// TestCutOfTooMany: more leaves than a log has have no tiles, as Width says.
func TestCutOfTooMany(t *testing.T) {
	l := hashes(300)
	for _, n := range []int{65, 66, 68, 80, 128, 255, 256, 257, 300} {
		for _, id := range []ID{{0, 0}, {0, 16}, {1, 0}, {2, 1}, {3, 0}, {4, 0}} {
			if x, e := Cut(table, l[:n], id); e != api.ErrRange || x.ID != (ID{}) || len(x.L) != 0 {
				t.Errorf("of %d, %v: %v, %v", n, id, x, e)
			}
		}
	}
}

func TestCutLeavesItsLeaves(t *testing.T) {
	l := hashes(64)
	for n := range 65 {
		for _, id := range Plan(n) {
			given := roomy(l[:n])
			x, _ := Cut(table, given, id)
			scribble(x.L)
			if !untouched(given, l[:n]) {
				t.Errorf("of %d, %v", n, id)
			}
		}
	}
}

// roomy answers the same hashes, with spare room behind them in which something stands.
func roomy(l []string) []string {
	return append(slices.Clone(l), "room", "room", "room", "room")[:len(l)]
}

// untouched tells whether a roomy list is still as it was.
func untouched(l, was []string) bool {
	return slices.Equal(l, was) && slices.Equal(l[len(l):len(l)+4], []string{"room", "room", "room", "room"})
}

// scribble writes over all the memory of a list.
func scribble(l []string) {
	for i := range l[:cap(l)] {
		l[:cap(l)][i] = "scribbled"
	}
}

// The tests of P7.1: Up.

func TestUp(t *testing.T) {
	l := hashes(7)
	want := h("\x01", h("\x01", l[0], l[1]), h("\x01", l[2], l[3]))
	for _, id := range []ID{{}, {0, 3}, {1, 0}, {2, 1}, {-1, math.MinInt}, {math.MaxInt, 7}} {
		if got, e := Up(table, Tile{id, l[:4]}); e != api.OK || got != want {
			t.Errorf("%v: %x, %v", id, got, e)
		}
	}
	for _, n := range []int{0, 1, 2, 3, 5, 6, 7} {
		if got, e := Up(table, Tile{ID{}, l[:n]}); e != api.ErrForm || got != "" {
			t.Errorf("of %d: %x, %v", n, got, e)
		}
	}
	if got, e := Up(table, Tile{}); e != api.ErrForm || got != "" {
		t.Errorf("of no list: %x, %v", got, e)
	}
}

func TestUpLeavesItsTile(t *testing.T) {
	l := hashes(9)
	for n := range 9 {
		given := roomy(l[:n])
		Up(table, Tile{ID{1, 2}, given})
		if !untouched(given, l[:n]) {
			t.Errorf("of %d", n)
		}
	}
}

// The tests of P7.2.

func TestRootOfEachSize(t *testing.T) {
	l := hashes(64)
	for n := range 65 {
		if got, e := Root(table, n, edgeWant(l[:n])); e != api.OK || got != rootWant(l[:n]) {
			t.Errorf("of %d: %x, %v", n, got, e)
		}
	}
}

func TestRootOfNone(t *testing.T) {
	for _, edge := range [][]Tile{nil, {}} {
		if got, e := Root(table, 0, edge); e != api.OK || got != h() {
			t.Errorf("%x, %v", got, e)
		}
	}
}

// TestKnown holds tiles and roots against such as were reckoned elsewhere.
func TestKnown(t *testing.T) {
	var l []string
	for _, b := range strings.Split("abcdefghijklmnopqrstu", "") {
		l = append(l, h("\x00", b))
	}
	for _, c := range []struct {
		n    int
		edge []string
		root string
	}{
		{5, []string{
			"33376a3bd63e9993708a84ddfe6c28ae58b83505dd1fed711bd924ec5a6239f0",
			"2824a7ccda2caa720c85c9fba1e8b5b735eecfdb03878e4f8dfe6c3625030bc4",
		}, "fe14a5426fbd70c0fa73f52342afed0da0bd23c4838662ccf6b88a3070ead97b"},
		{21, []string{
			"09719c6d8c99470f2a2bd1cff94cfbd7f53ff138e8c161669c85f9a6c6140313",
			"98ec1c4b75d3470da479df012d9d6322ce75e4c5ad434b4a56268d428b00646f",
			"20a656053806b1699d1dd2227d17c50e006e3f0b9af55bb6b525d045ce405de5",
		}, "62403d301eac1347b42e596c5953e6418ad431d10b0d2ff680c2654a2387fd10"},
	} {
		edge := cutEdge(t, l[:c.n])
		for i, x := range edge {
			if got := hex.EncodeToString([]byte(strings.Join(x.L, ""))); got != c.edge[i] {
				t.Errorf("of %d, %v: %s", c.n, x.ID, got)
			}
		}
		if got, e := Root(table, c.n, edge); e != api.OK || hex.EncodeToString([]byte(got)) != c.root {
			t.Errorf("of %d: %x, %v", c.n, got, e)
		}
	}
	for n, want := range map[int]string{
		63: "1f75981dfab82a28f61973d894939e80c8c072df2186199191c401ed0ba91460",
		64: "f261e23692d978fdac3fd949db5495940a437ae671b9a6dde9aa6118d003652f",
	} {
		if got, e := Root(table, n, cutEdge(t, hashes(n))); e != api.OK || hex.EncodeToString([]byte(got)) != want {
			t.Errorf("of %d: %x, %v", n, got, e)
		}
	}
}

// cutEdge cuts the edge's tiles, as who keeps the leaves does.
func cutEdge(t *testing.T, l []string) []Tile {
	var edge []Tile
	for _, id := range Edge(len(l)) {
		x, e := Cut(table, l, id)
		if e != api.OK {
			t.Errorf("of %d, %v: %v", len(l), id, e)
		}
		edge = append(edge, x)
	}
	return edge
}

func TestRootOfWhatIsNone(t *testing.T) {
	for _, n := range none() {
		for _, edge := range [][]Tile{nil, {{}}, {{ID{0, 0}, hashes(1)}}, edgeWant(hashes(64)), {{ID{0, 0}, []string{"x"}}}} {
			if got, e := Root(table, n, edge); e != api.ErrArg || got != "" {
				t.Errorf("of %d: %x, %v", n, got, e)
			}
		}
	}
}

// refused asks for the root of an edge that isn't n's.
func refused(t *testing.T, n int, edge []Tile, why string) {
	t.Helper()
	if got, e := Root(table, n, edge); e != api.ErrForm || got != "" {
		t.Errorf("of %d, %s: %x, %v", n, why, got, e)
	}
}

func TestRootOfOtherTiles(t *testing.T) {
	l := hashes(64)
	for n := range 65 {
		edge := edgeWant(l[:n])
		more := Tile{ID{0, n / 4}, []string{h("more")}}
		refused(t, n, slices.Concat(edge, []Tile{more}), "a tile more behind")
		refused(t, n, slices.Concat([]Tile{more}, edge), "a tile more ahead")
		refused(t, n, slices.Concat(edge, []Tile{{}}), "a tile of nothing more")
		refused(t, n, slices.Concat(edge, []Tile{{ID{0, n / 4}, nil}}), "a tile without hashes more")
		refused(t, n, slices.Concat(edge, []Tile{{ID{4, 0}, nil}}), "a tile of a level that has no hash more")
		for i := range edge {
			refused(t, n, slices.Delete(slices.Clone(edge), i, i+1), "a tile too few")
			refused(t, n, slices.Insert(slices.Clone(edge), i, edge[i]), "a tile twice")
			for _, id := range []ID{{edge[i].ID.Level + 1, edge[i].ID.Index}, {edge[i].ID.Level - 1, edge[i].ID.Index},
				{edge[i].ID.Level, edge[i].ID.Index + 1}, {edge[i].ID.Level, edge[i].ID.Index - 1},
				{edge[i].ID.Level, math.MinInt}, {math.MaxInt, edge[i].ID.Index}, {-1, -1}} {
				other := slices.Clone(edge)
				other[i].ID = id
				refused(t, n, other, "a tile of another place")
			}
		}
		if len(edge) > 1 {
			turned := slices.Clone(edge)
			slices.Reverse(turned)
			refused(t, n, turned, "from the lowest level up")
		}
		if n > 0 {
			refused(t, n, nil, "no tiles")
		}
	}
}

func TestRootOfAnotherSizesEdge(t *testing.T) {
	l := hashes(64)
	for n := range 65 {
		for m := range 65 {
			if n != m {
				refused(t, n, edgeWant(l[:m]), "the edge of "+strconv.Itoa(m))
			}
		}
	}
}

func TestRootOfAllTiles(t *testing.T) {
	l := hashes(64)
	for n := 4; n <= 64; n++ {
		refused(t, n, tilesWant(l[:n]), "the full tiles too")
	}
}

func TestRootOfOtherHashes(t *testing.T) {
	l := hashes(64)
	for n := 1; n <= 64; n++ {
		edge := edgeWant(l[:n])
		for i, x := range edge {
			with := func(l []string) []Tile {
				other := slices.Clone(edge)
				other[i].L = l
				return other
			}
			refused(t, n, with(slices.Concat(x.L, []string{h("more")})), "a hash too many")
			refused(t, n, with(slices.Concat(x.L, []string{""})), "a hash of nothing too many")
			refused(t, n, with(x.L[1:]), "a hash too few")
			refused(t, n, with(nil), "no hashes")
			for k := range x.L {
				for _, wrong := range []string{"", "x", x.L[k][:31], x.L[k] + "\x00", x.L[k] + x.L[k]} {
					hashes := slices.Clone(x.L)
					hashes[k] = wrong
					refused(t, n, with(hashes), "a hash of "+strconv.Itoa(len(wrong))+" bytes")
				}
			}
		}
	}
}

func TestRootTakesAnyHashes(t *testing.T) {
	for _, x := range []string{strings.Repeat("\x00", 32), strings.Repeat("\xff", 32), strings.Repeat("é", 16)} {
		l := []string{x, x, x}
		if got, e := Root(table, 3, []Tile{{ID{0, 0}, l}}); e != api.OK || got != rootWant(l) {
			t.Errorf("%q: %x, %v", x, got, e)
		}
	}
	refused(t, 1, []Tile{{ID{0, 0}, []string{strings.Repeat("é", 32)}}}, "32 letters of 64 bytes")
}

func TestRootLeavesItsEdge(t *testing.T) {
	l := hashes(64)
	for n := range 65 {
		want := edgeWant(l[:n])
		room := Tile{ID{7, 7}, []string{"room"}}
		edge := append(edgeWant(l[:n]), room)[:len(want)]
		for i := range edge {
			edge[i].L = roomy(edge[i].L)
		}
		Root(table, n, edge)
		for i, x := range edge {
			if x.ID != want[i].ID || !untouched(x.L, want[i].L) {
				t.Errorf("of %d, %v", n, want[i].ID)
			}
		}
		if !same(edge[:len(want)+1][len(want)], room) {
			t.Errorf("of %d: the room behind the edge has changed", n)
		}
	}
}

// The tests of P7.3.

func TestFullTilesAreInTheTileAbove(t *testing.T) {
	l := hashes(64)
	for n := range 65 {
		for _, id := range Plan(n) {
			x, _ := Cut(table, l[:n], id)
			up, e := Up(table, x)
			if len(x.L) != 4 {
				if e != api.ErrForm || up != "" {
					t.Errorf("of %d, %v: %x, %v", n, id, up, e)
				}
				continue
			}
			above, f := Cut(table, l[:n], ID{id.Level + 1, id.Index / 4})
			if e != api.OK || f != api.OK || above.L[id.Index%4] != up {
				t.Errorf("of %d, %v: %x, %v, %v", n, id, up, e, f)
			}
		}
	}
}

func TestEdgesRootIsLayer4s(t *testing.T) {
	for _, l := range [][]string{hashes(64), slices.Repeat([]string{h("same")}, 64)} {
		for n := range 65 {
			if got, e := Root(table, n, cutEdge(t, l[:n])); e != api.OK || got != merkle.Root(table, l[:n]) {
				t.Errorf("of %d: %x, %v", n, got, e)
			}
		}
	}
}

// TestAnotherHashIsAnotherRoot: each hash of the edge is in the root.
func TestAnotherHashIsAnotherRoot(t *testing.T) {
	l := hashes(64)
	for n := 1; n <= 64; n++ {
		for i, x := range edgeWant(l[:n]) {
			for k := range x.L {
				edge := edgeWant(l[:n])
				edge[i].L[k] = h("another")
				if got, e := Root(table, n, edge); e != api.OK || got == rootWant(l[:n]) {
					t.Errorf("of %d, %v, hash %d: %x, %v", n, x.ID, k, got, e)
				}
			}
		}
	}
}

// The tests of what holds everywhere.

// TestWrongHashesEnd: of hashes that aren't of 32 bytes nothing is promised but that each call ends and none panics.
func TestWrongHashesEnd(t *testing.T) {
	for _, wrong := range []string{"", "x", strings.Repeat("x", 33)} {
		l := slices.Repeat([]string{wrong}, 64)
		for n := range 65 {
			for _, id := range Plan(n) {
				x, e := Cut(table, l[:n], id)
				if e != api.OK || len(x.L) != Width(n, id) {
					t.Errorf("of %d, %v: %v, %v", n, id, x, e)
				}
			}
		}
		if _, e := Up(table, Tile{ID{}, l[:4]}); e != api.OK {
			t.Errorf("%q: %v", wrong, e)
		}
	}
}
