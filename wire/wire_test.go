package wire

import (
	"encoding/binary"
	"math"
	"reflect"
	"slices"
	"strings"
	"testing"

	"annalist/api"
)

// number is Number's oracle.
func number(n uint32) string {
	return string(binary.BigEndian.AppendUint32(nil, n))
}

// text is Text's oracle.
func text(s string) string {
	return number(uint32(len(s))) + s
}

// bytesOf answers n bytes that are unlike from place to place, and of which some are no UTF-8.
func bytesOf(n int) string {
	b := make([]byte, n)
	for i := range b {
		b[i] = byte(7*i + 200)
	}
	return string(b)
}

func TestNumber(t *testing.T) {
	cases := []struct {
		n    int
		want string
	}{
		{0, "\x00\x00\x00\x00"},
		{1, "\x00\x00\x00\x01"},
		{255, "\x00\x00\x00\xff"},
		{256, "\x00\x00\x01\x00"},
		{0x01020304, "\x01\x02\x03\x04"},
		{0x7f00ff80, "\x7f\x00\xff\x80"},
		{math.MaxInt32 - 1, "\x7f\xff\xff\xfe"},
		{math.MaxInt32, "\x7f\xff\xff\xff"},
	}
	for _, c := range cases {
		if b := Number(c.n); b != c.want {
			t.Errorf("Number(%d) = %q, want %q", c.n, b, c.want)
		}
	}
}

func TestNumberOfOthersIsThatOfNought(t *testing.T) {
	for _, n := range []int{-1, -2, -256, math.MinInt32, math.MinInt32 - 1, math.MinInt64, math.MinInt64 + 5,
		math.MaxInt32 + 1, math.MaxInt32 + 2, math.MaxUint32, math.MaxUint32 + 8, 1<<40 + 1, math.MaxInt64} {
		if b := Number(n); b != "\x00\x00\x00\x00" {
			t.Errorf("Number(%d) = %q", n, b)
		}
	}
}

func TestText(t *testing.T) {
	for _, n := range []int{0, 1, 2, 32, 255, 256, 70000} {
		s := bytesOf(n)
		if b := Text(s); b != text(s) {
			t.Errorf("Text of %d bytes begins %q", n, b[:4])
		}
	}
	if b := Text("ab"); b != "\x00\x00\x00\x02ab" {
		t.Errorf("%q", b)
	}
}

func TestRequestBytes(t *testing.T) {
	cases := []struct {
		r    api.Request
		want string
	}{
		{api.Request{}, "R" + strings.Repeat("\x00", 20)},
		{api.Request{Client: 3, Seq: 0x01020304, Leaf: "leaf", Key: "key", Value: "va"},
			"R\x00\x00\x00\x03\x01\x02\x03\x04\x00\x00\x00\x04leaf\x00\x00\x00\x03key\x00\x00\x00\x02va"},
		{api.Request{Client: -1, Seq: math.MaxInt32 + 1, Value: "v"}, "R" + strings.Repeat("\x00", 16) + "\x00\x00\x00\x01v"},
		{api.Request{Client: 70000, Seq: 5, Leaf: bytesOf(300)}, "R" + number(70000) + number(5) + text(bytesOf(300)) + number(0) + number(0)},
	}
	for _, c := range cases {
		if b := Request(c.r); b != c.want {
			t.Errorf("Request(%+v) = %q, want %q", c.r, b, c.want)
		}
	}
}

func TestHeadBytes(t *testing.T) {
	root, other := strings.Repeat("r", 32), bytesOf(32)
	cases := []struct {
		h    api.Head
		want string
	}{
		{api.Head{Seq: 1, Size: 258, Time: math.MaxInt32, Root: root, Map: other},
			"H\x00\x00\x00\x01\x00\x00\x01\x02\x7f\xff\xff\xff" + root + other},
		{api.Head{Seq: -1, Size: math.MaxInt32 + 1, Time: -5, Root: root, Map: other},
			"H" + strings.Repeat("\x00", 12) + root + other},
		// Roots that are of other lengths stand as they are.
		{api.Head{}, "H" + strings.Repeat("\x00", 12)},
		{api.Head{Root: "a", Map: "bcd"}, "H" + strings.Repeat("\x00", 12) + "abcd"},
		{api.Head{Root: root[:31], Map: other + "x"}, "H" + strings.Repeat("\x00", 12) + root[:31] + other + "x"},
		{api.Head{Root: bytesOf(100)}, "H" + strings.Repeat("\x00", 12) + bytesOf(100)},
	}
	for _, c := range cases {
		if b := Head(c.h); b != c.want {
			t.Errorf("Head(%+v) = %q, want %q", c.h, b, c.want)
		}
	}
}

func TestListBytes(t *testing.T) {
	cases := []struct {
		l    []string
		want string
	}{
		{nil, "L\x00\x00\x00\x00"},
		{[]string{}, "L\x00\x00\x00\x00"},
		{[]string{""}, "L\x00\x00\x00\x01\x00\x00\x00\x00"},
		{[]string{"a"}, "\x4c\x00\x00\x00\x01\x00\x00\x00\x01\x61"},
		{[]string{"xy", "", bytesOf(300)}, "L\x00\x00\x00\x03" + text("xy") + text("") + text(bytesOf(300))},
		{make([]string, 1001), "L\x00\x00\x03\xe9" + strings.Repeat("\x00", 4004)},
	}
	for _, c := range cases {
		if b := List(c.l); b != c.want {
			t.Errorf("List of %d texts = %q, want %q", len(c.l), b, c.want)
		}
	}
}

func TestListLeavesWhatIsHandedIn(t *testing.T) {
	room := []string{"a", "b", "spare"}
	List(room[:2])
	if !slices.Equal(room, []string{"a", "b", "spare"}) {
		t.Errorf("%q", room)
	}
}

// boundary is a request, and whether it is right.
type boundary struct {
	what  string
	r     api.Request
	right bool
}

// boundaries answers requests at each bound of Right, on either side.
func boundaries() []boundary {
	var all []boundary
	add := func(what string, right bool, change func(r *api.Request)) {
		r := api.Request{Client: 1, Seq: 2, Leaf: "leaf", Key: "key", Value: "value"}
		change(&r)
		all = append(all, boundary{what, r, right})
	}
	add("ordinary", true, func(r *api.Request) {})
	add("least", true, func(r *api.Request) { *r = api.Request{Seq: 1, Leaf: "\x00"} })
	add("greatest", true, func(r *api.Request) {
		*r = api.Request{Client: 3, Seq: math.MaxInt32, Leaf: bytesOf(200), Key: bytesOf(50), Value: bytesOf(100)}
	})
	add("client 0", true, func(r *api.Request) { r.Client = 0 })
	add("client 3", true, func(r *api.Request) { r.Client = 3 })
	add("client -1", false, func(r *api.Request) { r.Client = -1 })
	add("client 4", false, func(r *api.Request) { r.Client = 4 })
	add("client least", false, func(r *api.Request) { r.Client = math.MinInt })
	add("client greatest", false, func(r *api.Request) { r.Client = math.MaxInt })
	add("seq 1", true, func(r *api.Request) { r.Seq = 1 })
	add("seq 2^31-1", true, func(r *api.Request) { r.Seq = math.MaxInt32 })
	add("seq 0", false, func(r *api.Request) { r.Seq = 0 })
	add("seq -1", false, func(r *api.Request) { r.Seq = -1 })
	add("seq 2^31", false, func(r *api.Request) { r.Seq = math.MaxInt32 + 1 })
	add("seq 2^32+1", false, func(r *api.Request) { r.Seq = math.MaxUint32 + 2 })
	add("leaf of 1", true, func(r *api.Request) { r.Leaf = "x" })
	add("leaf of 200", true, func(r *api.Request) { r.Leaf = bytesOf(200) })
	add("leaf of 0", false, func(r *api.Request) { r.Leaf = "" })
	add("leaf of 201", false, func(r *api.Request) { r.Leaf = bytesOf(201) })
	add("key of 1", true, func(r *api.Request) { r.Key = "k" })
	add("key of 50", true, func(r *api.Request) { r.Key = bytesOf(50) })
	add("key of 51", false, func(r *api.Request) { r.Key = bytesOf(51) })
	add("key of 51, no value", false, func(r *api.Request) { r.Key, r.Value = bytesOf(51), "" })
	add("value of 1", true, func(r *api.Request) { r.Value = "v" })
	add("value of 100", true, func(r *api.Request) { r.Value = bytesOf(100) })
	add("value of 101", false, func(r *api.Request) { r.Value = bytesOf(101) })
	add("key without value", true, func(r *api.Request) { r.Value = "" })
	add("neither", true, func(r *api.Request) { r.Key, r.Value = "", "" })
	add("value without key", false, func(r *api.Request) { r.Key = "" })
	add("value of 1 without key", false, func(r *api.Request) { r.Key, r.Value = "", "v" })
	// Limits count bytes: these are fewer runes than bytes.
	add("leaf of 100 runes", true, func(r *api.Request) { r.Leaf = strings.Repeat("é", 100) })
	add("leaf of 101 runes", false, func(r *api.Request) { r.Leaf = strings.Repeat("é", 101) })
	add("key of 26 runes", false, func(r *api.Request) { r.Key = strings.Repeat("é", 26) })
	add("value of 51 runes", false, func(r *api.Request) { r.Value = strings.Repeat("é", 51) })
	return all
}

func TestRight(t *testing.T) {
	for _, c := range boundaries() {
		if Right(c.r) != c.right {
			t.Errorf("%s: Right(%+v) = %v", c.what, c.r, !c.right)
		}
	}
}

// refuseRequest fails if b is read as a request.
func refuseRequest(t *testing.T, what, b string) {
	t.Helper()
	if r, e := ReadRequest(b); e != api.ErrForm || r != (api.Request{}) {
		t.Errorf("%s: ReadRequest(%q) = %+v, %v", what, b, r, e)
	}
}

// refuseHead fails if b is read as a head.
func refuseHead(t *testing.T, what, b string) {
	t.Helper()
	if h, e := ReadHead(b); e != api.ErrForm || h != (api.Head{}) {
		t.Errorf("%s: ReadHead(%q) = %+v, %v", what, b, h, e)
	}
}

// refuseList fails if b is read as a list.
func refuseList(t *testing.T, what, b string) {
	t.Helper()
	if l, e := ReadList(b); e != api.ErrForm || len(l) != 0 {
		t.Errorf("%s: ReadList(%q) = %q, %v", what, b, l, e)
	}
}

// spoil hands on what comes of b by cutting it short anywhere, by bytes left over, and by another first letter.
func spoil(b string, hand func(what, b string)) {
	for n := range len(b) {
		hand("cut short", b[:n])
	}
	for _, more := range []string{"x", "\x00", "\x00\x00\x00\x00", b} {
		hand("left over", b+more)
	}
	for letter := range 256 {
		if byte(letter) != b[0] {
			hand("letter", string([]byte{byte(letter)})+b[1:])
		}
	}
	hand("ahead", "\x00"+b)
	hand("without a letter", b[1:])
}

func TestRequestIsReadAsItWas(t *testing.T) {
	for _, c := range boundaries() {
		if !c.right {
			continue
		}
		if r, e := ReadRequest(Request(c.r)); e != api.OK || r != c.r {
			t.Errorf("%s: %+v, %v", c.what, r, e)
		}
	}
}

func TestReadRequestOfOneThatIsNotRight(t *testing.T) {
	for _, c := range boundaries() {
		// The bytes of a client below 0 are those of client 0, which has a request that is right.
		if c.right || Number(c.r.Client) == number(0) {
			continue
		}
		refuseRequest(t, c.what, Request(c.r))
	}
	for _, c := range []struct {
		what             string
		client, seq      uint32
		leaf, key, value string
	}{
		{"client 4", 4, 1, "l", "k", "v"},
		{"client 256", 256, 1, "l", "k", "v"},
		{"client 2^31", 1 << 31, 1, "l", "k", "v"},
		{"client 2^32-1", math.MaxUint32, 1, "l", "k", "v"},
		{"seq 0", 0, 0, "l", "k", "v"},
		{"seq 2^31", 0, 1 << 31, "l", "k", "v"},
		{"seq 2^31+1", 0, 1<<31 + 1, "l", "k", "v"},
		{"seq 2^32-1", 0, math.MaxUint32, "l", "k", "v"},
		{"no leaf", 0, 1, "", "k", "v"},
		{"long leaf", 0, 1, bytesOf(201), "k", "v"},
		{"long key", 0, 1, "l", bytesOf(51), "v"},
		{"long value", 0, 1, "l", "k", bytesOf(101)},
		{"no key", 0, 1, "l", "", "v"},
	} {
		refuseRequest(t, c.what, "R"+number(c.client)+number(c.seq)+text(c.leaf)+text(c.key)+text(c.value))
	}
}

func TestReadRequestOfAClientThatHasNoughtsBytes(t *testing.T) {
	// Whoever wrote these bytes, just one right request has them.
	r, e := ReadRequest(Request(api.Request{Client: -1, Seq: 1, Leaf: "l"}))
	if want := (api.Request{Seq: 1, Leaf: "l"}); e != api.OK || r != want {
		t.Errorf("%+v, %v", r, e)
	}
}

func TestReadRequestOfBytesThatNothingHas(t *testing.T) {
	hand := func(what, b string) { refuseRequest(t, what, b) }
	for _, r := range []api.Request{
		{Client: 1, Seq: 258, Leaf: "ab", Key: "k", Value: "v"},
		{Seq: 1, Leaf: "a"},
		{Seq: 1, Leaf: "ab", Key: "k"},
	} {
		spoil(Request(r), hand)
	}
	front := "R" + number(1) + number(1)
	for _, n := range []uint32{0, 1, 3, 4, 5, 200, 201, math.MaxInt32, 1 << 31, 1<<31 + 2, math.MaxUint32} {
		hand("leaf's length", front+number(n)+"ab"+text("k")+text("v"))
	}
	for _, n := range []uint32{0, 2, 6, 7, 50, 51, math.MaxInt32, 1 << 31, 1<<31 + 1, math.MaxUint32} {
		hand("key's length", front+text("ab")+number(n)+"k"+text("v"))
	}
	for _, n := range []uint32{0, 2, 100, 101, math.MaxInt32, 1 << 31, 1<<31 + 1, math.MaxUint32} {
		hand("value's length", front+text("ab")+text("k")+number(n)+"v")
	}
	hand("a head", Head(api.Head{Seq: 1, Root: bytesOf(32), Map: bytesOf(32)}))
	hand("a list", List([]string{"a"}))
}

// heads answers heads that are right.
func heads() []api.Head {
	root, other := bytesOf(32), strings.Repeat("\xff", 32)
	var all []api.Head
	for _, n := range []int{0, 1, 255, 256, math.MaxInt32 - 1, math.MaxInt32} {
		all = append(all,
			api.Head{Seq: n, Root: root, Map: other},
			api.Head{Size: n, Root: other, Map: root},
			api.Head{Time: n, Root: root, Map: root})
	}
	return append(all, api.Head{Seq: 1, Size: 2, Time: 3, Root: root, Map: other})
}

func TestHeadIsReadAsItWas(t *testing.T) {
	for _, h := range heads() {
		if x, e := ReadHead(Head(h)); e != api.OK || x != h {
			t.Errorf("%+v: %+v, %v", h, x, e)
		}
	}
}

func TestReadHeadOfBytesThatNothingHas(t *testing.T) {
	hand := func(what, b string) { refuseHead(t, what, b) }
	roots := bytesOf(64)
	hand("empty", "")
	spoil("H"+number(1)+number(2)+number(3)+roots, hand)
	for _, n := range []uint32{1 << 31, 1<<31 + 1, math.MaxUint32} {
		hand("seq", "H"+number(n)+number(2)+number(3)+roots)
		hand("size", "H"+number(1)+number(n)+number(3)+roots)
		hand("time", "H"+number(1)+number(2)+number(n)+roots)
	}
	for _, n := range []int{0, 1, 31, 32, 33, 63, 65, 96} {
		hand("roots", "H"+number(1)+number(2)+number(3)+bytesOf(n))
	}
	for _, h := range []api.Head{
		{},
		{Root: roots[:32]},
		{Map: roots[:32]},
		{Root: roots[:31], Map: roots[:32]},
		{Root: roots[:32], Map: roots[:31]},
		{Root: roots[:33], Map: roots[:32]},
		{Root: roots[:32], Map: roots[:33]},
	} {
		hand("roots of other lengths", Head(h))
	}
	hand("a request", Request(api.Request{Seq: 1, Leaf: bytesOf(56)}))
	hand("a list", List([]string{bytesOf(68)}))
}

func TestReadHeadOfRootsOfOtherLengthsThatMakeUpTwo(t *testing.T) {
	b := bytesOf(64)
	h, e := ReadHead(Head(api.Head{Seq: 7, Root: b[:31], Map: b[31:]}))
	if want := (api.Head{Seq: 7, Root: b[:32], Map: b[32:]}); e != api.OK || h != want {
		t.Errorf("%+v, %v", h, e)
	}
}

func TestListIsReadAsItWas(t *testing.T) {
	many := make([]string, 1000)
	for i := range many {
		many[i] = bytesOf(i % 7)
	}
	for _, l := range [][]string{
		nil, {}, {""}, {"a"}, {"", ""}, {"", "a", ""}, {"ab", "c", bytesOf(70000), "L"},
		{List([]string{"a"}), Request(api.Request{})},
		many[:999], many, make([]string, 1000),
	} {
		if x, e := ReadList(List(l)); e != api.OK || !slices.Equal(x, l) {
			t.Errorf("%d texts: %d texts, %v", len(l), len(x), e)
		}
	}
}

func TestReadListOfTooManyTexts(t *testing.T) {
	for _, n := range []int{1001, 1002, 2000} {
		refuseList(t, "too many", List(make([]string, n)))
	}
	for _, n := range []uint32{1001, 65536, math.MaxInt32, 1 << 31, 1<<31 + 1, math.MaxUint32} {
		refuseList(t, "a number that doesn't fit", "L"+number(n))
		refuseList(t, "a number that doesn't fit", "L"+number(n)+strings.Repeat("\x00", 4004))
	}
}

func TestReadListOfBytesThatNothingHas(t *testing.T) {
	hand := func(what, b string) { refuseList(t, what, b) }
	hand("empty", "")
	for _, l := range [][]string{nil, {""}, {"a"}, {"ab", "", "c"}} {
		spoil(List(l), hand)
	}
	for _, n := range []uint32{0, 1, 3, 4, 5, 1000, 1001, math.MaxInt32, 1 << 31, 1<<31 + 2, math.MaxUint32} {
		hand("number", "L"+number(n)+text("a")+text("b"))
	}
	for _, n := range []uint32{0, 2, 5, 6, 7, math.MaxInt32, 1 << 31, 1<<31 + 1, math.MaxUint32} {
		hand("length", "L"+number(2)+number(n)+"a"+text("b"))
		hand("last length", "L"+number(2)+text("b")+number(n)+"a")
	}
	hand("a request", Request(api.Request{Seq: 1, Leaf: "a"}))
	hand("a head", Head(api.Head{Root: bytesOf(32), Map: bytesOf(32)}))
}

func TestCutterCutsOffNoneWhereThereAreFewer(t *testing.T) {
	cut := cutter("abcd")
	for _, c := range []struct {
		n    int
		want string
	}{{-1, ""}, {math.MinInt, ""}, {5, ""}, {1, "a"}, {4, ""}, {0, ""}, {2, "bc"}, {math.MaxInt, ""}, {1, "d"}, {1, ""}} {
		if s := cut(c.n); s != c.want {
			t.Errorf("cut(%d) = %q, want %q", c.n, s, c.want)
		}
	}
}

func TestReadListAnswersNewMemory(t *testing.T) {
	b := List([]string{"a", "b"})
	first, _ := ReadList(b)
	first[0] = "changed"
	if again, _ := ReadList(b); !reflect.DeepEqual(again, []string{"a", "b"}) {
		t.Errorf("%q", again)
	}
}

// FuzzRead holds every answer against its meaning: what is read is right and has just the bytes it was read from.
func FuzzRead(f *testing.F) {
	f.Add(Request(api.Request{Client: 1, Seq: 1, Leaf: "leaf", Key: "key", Value: "value"}))
	f.Add(Head(api.Head{Seq: 1, Root: bytesOf(32), Map: bytesOf(32)}))
	f.Add(List([]string{"a", "", "bc"}))
	f.Fuzz(func(t *testing.T, b string) {
		if r, e := ReadRequest(b); (e == api.OK) != (Request(r) == b && Right(r)) {
			t.Errorf("request %+v, %v", r, e)
		}
		if h, e := ReadHead(b); (e == api.OK) != (Head(h) == b && len(h.Root) == 32 && len(h.Map) == 32) {
			t.Errorf("head %+v, %v", h, e)
		}
		if l, e := ReadList(b); e == api.OK && (List(l) != b || len(l) > 1000) || e != api.OK && len(l) != 0 {
			t.Errorf("list %q, %v", l, e)
		}
	})
}
