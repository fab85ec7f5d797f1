package check

import (
	"crypto/sha256"
	"encoding/binary"
	"math"
	"math/rand/v2"
	"slices"
	"strconv"
	"strings"
	"testing"

	"annalist/api"
	"annalist/serve"
	"annalist/sha"
	"annalist/state"
	"annalist/wire"
)

var table = sha.Make()

// The oracle says what the words of this chapter, and of those of layers 1, 2, 4 and 5, say: nothing of this package is in it
// but Told, and nothing of those layers.

func digest(b string) string {
	sum := sha256.Sum256([]byte(b))
	return string(sum[:])
}

// reader cuts bytes off; ok is false from the first part on that isn't there.
type reader struct {
	b  string
	ok bool
}

func (x *reader) cut(n int) string {
	if !x.ok || n > len(x.b) {
		x.ok = false
		return ""
	}
	front := x.b[:n]
	x.b = x.b[n:]
	return front
}

func (x *reader) number() int {
	b := x.cut(4)
	if !x.ok {
		return 0
	}
	n := int(binary.BigEndian.Uint32([]byte(b)))
	x.ok = n <= math.MaxInt32
	return n
}

func (x *reader) text() string {
	return x.cut(x.number())
}

// letter tells whether b begins so, and answers a reader of the rest.
func letter(b, first string) *reader {
	rest, ok := strings.CutPrefix(b, first)
	return &reader{rest, ok}
}

func (x *reader) atEnd() bool {
	return x.ok && x.b == ""
}

func readHead(b string) (api.Head, bool) {
	x := letter(b, "H")
	h := api.Head{Seq: x.number(), Size: x.number(), Time: x.number(), Root: x.cut(32), Map: x.cut(32)}
	return h, x.atEnd()
}

func readRequest(b string) (api.Request, bool) {
	x := letter(b, "R")
	r := api.Request{Client: x.number(), Seq: x.number(), Leaf: x.text(), Key: x.text(), Value: x.text()}
	return r, x.atEnd() && r.Client < 4 && r.Seq >= 1 && len(r.Leaf) >= 1 && len(r.Leaf) <= 200 &&
		len(r.Key) <= 50 && len(r.Value) <= 100 && (r.Key != "" || r.Value == "")
}

func readList(b string) ([]string, bool) {
	x := letter(b, "L")
	n := x.number()
	if n > 1000 {
		return nil, false
	}
	var l []string
	for range n {
		l = append(l, x.text())
	}
	return l, x.atEnd()
}

// half is the greatest power of two below n.
func half(n int) int {
	k := 1
	for 2*k < n {
		k *= 2
	}
	return k
}

// included is the root that an inclusion proof makes.
func included(leaf string, i, n int, proof []string) (string, bool) {
	if n == 1 {
		return leaf, len(proof) == 0
	}
	if len(proof) == 0 {
		return "", false
	}
	k, rest, last := half(n), proof[:len(proof)-1], proof[len(proof)-1]
	if i < k {
		root, ok := included(leaf, i, k, rest)
		return digest("\x01" + root + last), ok
	}
	root, ok := included(leaf, i-k, n-k, rest)
	return digest("\x01" + last + root), ok
}

// consistent is both roots that a consistency proof makes, given the first one.
func consistent(m, n int, whole bool, first string, proof []string) (string, string, bool) {
	if m == n {
		if whole {
			return first, first, len(proof) == 0
		}
		if len(proof) != 1 {
			return "", "", false
		}
		return proof[0], proof[0], true
	}
	if len(proof) == 0 {
		return "", "", false
	}
	k, rest, last := half(n), proof[:len(proof)-1], proof[len(proof)-1]
	if m <= k {
		old, root, ok := consistent(m, k, whole, first, rest)
		return old, digest("\x01" + root + last), ok
	}
	old, root, ok := consistent(m-k, n-k, false, first, rest)
	return digest("\x01" + last + old), digest("\x01" + last + root), ok
}

// mapRoot is the root that a proof of a key makes.
func mapRoot(key, value string, there bool, proof string) (string, bool) {
	if len(proof) < 32 {
		return "", false
	}
	bit := func(b string, i int) bool { return b[i/8]>>(7-i%8)&1 == 1 }
	empty := make([]string, 257)
	empty[256] = digest("E")
	for i := 255; i >= 0; i-- {
		empty[i] = digest("N" + empty[i+1] + empty[i+1])
	}
	beside := slices.Clone(empty)
	roots := proof[32:]
	for depth := 1; depth <= 256; depth++ {
		if bit(proof, depth-1) {
			if len(roots) < 32 {
				return "", false
			}
			beside[depth], roots = roots[:32], roots[32:]
		}
	}
	node := empty[256]
	if there {
		node = digest("V" + string([]byte{byte(len(key))}) + key + value)
	}
	path := digest("K" + key)
	for depth := 256; depth >= 1; depth-- {
		if bit(path, depth-1) {
			node = digest("N" + beside[depth] + node)
		} else {
			node = digest("N" + node + beside[depth])
		}
	}
	return node, roots == ""
}

// want is what must be told.
func want(a, b api.Head, q serve.Query, answer string) (Told, api.Errno) {
	var told Told
	var formed, proved bool
	switch q.Kind {
	case 0:
		told.Head, formed = readHead(answer)
		proved = told.Head.Seq == q.A
	case 1:
		var l []string
		if l, formed = readList(answer); formed && len(l) > 0 {
			told.Request, formed = readRequest(l[0])
		} else {
			formed = false
		}
		if formed && q.A >= 0 && q.A < b.Size && b.Size <= 64 {
			root, ok := included(digest("\x00"+l[0]), q.A, b.Size, l[1:])
			proved = ok && root == b.Root
		}
	case 2:
		var l []string
		l, formed = readList(answer)
		if formed && a.Size >= 1 && a.Size <= b.Size && b.Size <= 64 {
			first, second, ok := consistent(a.Size, b.Size, true, a.Root, l)
			proved = ok && first == a.Root && second == b.Root
		}
	case 3:
		var l []string
		l, formed = readList(answer)
		formed = formed && len(l) == 3 && (l[0] == "1" || l[0] == "0" && l[1] == "")
		if formed {
			told.There, told.Value = l[0] == "1", l[1]
			root, ok := mapRoot(q.Key, told.Value, told.There, l[2])
			proved = ok && root == a.Map
		}
	default:
		return Told{}, api.ErrArg
	}
	if !formed {
		return Told{}, api.ErrForm
	}
	if !proved {
		return Told{}, api.ErrProof
	}
	return told, api.OK
}

// look fails if what is told isn't what the words say, and answers it.
func look(t testing.TB, a, b api.Head, q serve.Query, answer string) (Told, api.Errno) {
	t.Helper()
	told, e := Look(table, a, b, q, answer)
	wanted, wantErr := want(a, b, q, answer)
	if told != wanted || e != wantErr {
		t.Errorf("heads %v, %v: %v: of %q: %v, %v, want %v, %v", a, b, q, answer, told, e, wanted, wantErr)
	}
	return told, e
}

// hold fails if that isn't told.
func hold(t testing.TB, a, b api.Head, q serve.Query, answer string, told Told) {
	t.Helper()
	if x, e := look(t, a, b, q, answer); x != told || e != api.OK {
		t.Errorf("heads %v, %v: %v: of %q: %v, %v, want %v", a, b, q, answer, x, e, told)
	}
}

// refuse fails if the answer isn't refused so, or if something is told beside.
func refuse(t testing.TB, a, b api.Head, q serve.Query, answer string, e api.Errno) {
	t.Helper()
	if x, got := look(t, a, b, q, answer); x != (Told{}) || got != e {
		t.Errorf("heads %v, %v: %v: of %q: %v, %v, want %v", a, b, q, answer, x, got, e)
	}
}

// script makes a state by layer 11's calls, with the heads of those sizes.
func script(t testing.TB, l []api.Request, sizes ...int) state.State {
	t.Helper()
	var s state.State
	for i, r := range l {
		next, reply := s.Apply(r)
		if reply.Err != api.OK || reply.Index != i {
			t.Fatalf("%v isn't taken: %v", r, reply)
		}
		s = next
		if slices.Contains(sizes, i+1) {
			s, _ = s.Cut(table, 10*i)
		}
	}
	if len(s.Heads) != len(sizes) {
		t.Fatalf("%d heads, want %d", len(s.Heads), len(sizes))
	}
	return s
}

// requests answers n ordinary ones, of the four clients in turn. Their keys are a few, so that most are overwritten, some by
// nothing, or there is none.
func requests(n int) []api.Request {
	var l []api.Request
	for i := range n {
		r := api.Request{Client: i % 4, Seq: i/4 + 1, Leaf: "leaf " + strconv.Itoa(i)}
		if i%5 != 3 {
			r.Key = "key " + strconv.Itoa(i*i%7)
			r.Value = strings.Repeat("v", i%4) + strconv.Itoa(i)
		}
		if i%6 == 4 {
			r.Value = ""
		}
		l = append(l, r)
	}
	return l
}

// ordinaryKeys are those of the ordinary requests, and some that aren't put.
func ordinaryKeys() []string {
	return []string{"key 0", "key 1", "key 2", "key 4", "key 3", "", "key ", "\x00", strings.Repeat("k", 50)}
}

// sample is a log that is longer than its last head. Some of the sizes are powers of two.
func sample(t testing.TB) state.State {
	return script(t, requests(13), 1, 2, 5, 6, 8, 11)
}

// found is whether the key is in the map behind the first n requests, and its value.
func found(l []api.Request, n int, key string) (bool, string) {
	for _, r := range slices.Backward(l[:n]) {
		if r.Key == key && key != "" {
			return true, r.Value
		}
	}
	return false, ""
}

// told is what must be told of what layer 13 answers to q: it is taken from the script, not from the answer.
func told(s state.State, q serve.Query) Told {
	switch q.Kind {
	case 0:
		return Told{Head: s.Heads[q.A-1]}
	case 1:
		return Told{Request: s.Requests[q.A]}
	case 3:
		is, value := found(s.Requests, s.Heads[q.A-1].Size, q.Key)
		return Told{There: is, Value: value}
	}
	return Told{}
}

// trusted are the heads under which the answer to q is looked at, and nothing in the place of those that aren't asked of.
func trusted(s state.State, q serve.Query) (a, b api.Head) {
	if q.Kind == 2 || q.Kind == 3 {
		a = s.Heads[q.A-1]
	}
	if q.Kind == 1 || q.Kind == 2 {
		b = s.Heads[q.B-1]
	}
	return a, b
}

// queries are all those of a kind that layer 13 answers.
func queries(s state.State, kind int, keys []string) []serve.Query {
	var l []serve.Query
	for _, h := range s.Heads {
		switch kind {
		case 0:
			l = append(l, serve.Query{A: h.Seq})
		case 1:
			for i := range h.Size {
				l = append(l, serve.Query{Kind: 1, A: i, B: h.Seq})
			}
		case 2:
			for a := range h.Seq {
				l = append(l, serve.Query{Kind: 2, A: a + 1, B: h.Seq})
			}
		case 3:
			for _, key := range keys {
				l = append(l, serve.Query{Kind: 3, A: h.Seq, Key: key})
			}
		}
	}
	return l
}

// answer is layer 13's.
func answer(t testing.TB, s state.State, q serve.Query) string {
	t.Helper()
	b, e := serve.Answer(table, s, q)
	if e != api.OK {
		t.Fatalf("%v: %v", q, e)
	}
	return b
}

// lookAll looks at every answer of each kind.
func lookAll(t testing.TB, s state.State, keys []string) {
	t.Helper()
	for kind := range 4 {
		for _, q := range queries(s, kind, keys) {
			a, b := trusted(s, q)
			hold(t, a, b, q, answer(t, s, q), told(s, q))
		}
	}
}

// list writes texts as layer 2's chapter says, without its package.
func list(l ...string) string {
	b := "L" + number(len(l))
	for _, text := range l {
		b += number(len(text)) + text
	}
	return b
}

func number(n int) string {
	return string(binary.BigEndian.AppendUint32(nil, uint32(n)))
}

// The tests of P14.1: what is told.

func TestEveryAnswer(t *testing.T) {
	for _, s := range []state.State{
		{},
		script(t, requests(5)),
		script(t, requests(1), 1),
		script(t, requests(2), 1, 2),
		script(t, requests(4), 3),
		sample(t),
	} {
		lookAll(t, s, ordinaryKeys())
	}
}

// TestAHeadBehindEachRequest has as many heads as there may be, so that each pair of sizes is looked at.
func TestAHeadBehindEachRequest(t *testing.T) {
	t.Parallel()
	var sizes []int
	for n := range 64 {
		sizes = append(sizes, n+1)
	}
	lookAll(t, script(t, requests(64), sizes...), []string{"key 1", "none"})
}

// TestLongRequests has each request with as many bytes as it may have.
func TestLongRequests(t *testing.T) {
	t.Parallel()
	l := requests(64)
	for i := range l {
		l[i].Leaf = strings.Repeat(string(rune('a'+i%26)), 200-i/26)
		l[i].Key = strings.Repeat(string(rune('k'+i%3)), 50-i%2)
		l[i].Value = strings.Repeat(string(rune('0'+i%10)), 100-i/10)
	}
	s := script(t, l, 1, 33, 63, 64)
	lookAll(t, s, []string{strings.Repeat("k", 50), strings.Repeat("k", 49), strings.Repeat("l", 50), strings.Repeat("n", 50)})
}

func TestEachClientsOnlyRequest(t *testing.T) {
	for client := range 4 {
		for _, seq := range []int{1, 256, math.MaxInt32} {
			r := api.Request{Client: client, Seq: seq, Leaf: "\x00\xff", Key: "\xfe", Value: "\x00"}
			s := script(t, []api.Request{r}, 1)
			lookAll(t, s, []string{"\xfe", "\xff", ""})
			q := serve.Query{Kind: 1, A: 0, B: 1}
			hold(t, api.Head{}, s.Heads[0], q, answer(t, s, q), Told{Request: r})
		}
	}
}

// TestBytesByHand has answers, heads and what is told of them written out.
func TestBytesByHand(t *testing.T) {
	first := "R\x00\x00\x00\x01\x00\x00\x00\x02\x00\x00\x00\x01a\x00\x00\x00\x01k\x00\x00\x00\x01v"
	second := "R\x00\x00\x00\x00\x00\x00\x00\x01\x00\x00\x00\x01b\x00\x00\x00\x01k\x00\x00\x00\x00"
	third := "R\x00\x00\x00\x03\x00\x00\x00\x07\x00\x00\x00\x01c\x00\x00\x00\x00\x00\x00\x00\x00"
	one, two, three := digest("\x00"+first), digest("\x00"+second), digest("\x00"+third)
	both := digest("\x01" + one + two)
	noughts := strings.Repeat("\x00", 32)
	valued, _ := mapRoot("k", "v", true, noughts)
	overwritten, _ := mapRoot("k", "", true, noughts)
	nothing, _ := mapRoot("k", "", false, noughts)
	a := api.Head{Seq: 1, Size: 1, Time: 3, Root: one, Map: valued}
	b := api.Head{Seq: 2, Size: 3, Time: 258, Root: digest("\x01" + both + three), Map: overwritten}
	pair := api.Head{Size: 2, Root: both, Map: nothing}
	for _, c := range []struct {
		a, b   api.Head
		q      serve.Query
		answer string
		told   Told
	}{
		{a, b, serve.Query{A: 1}, "H\x00\x00\x00\x01\x00\x00\x00\x01\x00\x00\x00\x03" + one + valued, Told{Head: a}},
		{a, b, serve.Query{A: 2}, "H\x00\x00\x00\x02\x00\x00\x00\x03\x00\x00\x01\x02" + b.Root + overwritten, Told{Head: b}},
		{a, a, serve.Query{Kind: 1, A: 0, B: 1}, list(first), Told{Request: api.Request{Client: 1, Seq: 2, Leaf: "a", Key: "k", Value: "v"}}},
		{a, b, serve.Query{Kind: 1, A: 0, B: 2}, list(first, two, three), Told{Request: api.Request{Client: 1, Seq: 2, Leaf: "a", Key: "k", Value: "v"}}},
		{a, b, serve.Query{Kind: 1, A: 1, B: 2}, list(second, one, three), Told{Request: api.Request{Client: 0, Seq: 1, Leaf: "b", Key: "k"}}},
		{a, b, serve.Query{Kind: 1, A: 2, B: 2}, list(third, both), Told{Request: api.Request{Client: 3, Seq: 7, Leaf: "c"}}},
		{a, a, serve.Query{Kind: 2, A: 1, B: 1}, "L\x00\x00\x00\x00", Told{}},
		{b, b, serve.Query{Kind: 2, A: 2, B: 2}, "L\x00\x00\x00\x00", Told{}},
		{a, b, serve.Query{Kind: 2, A: 1, B: 2}, list(two, three), Told{}},
		{pair, b, serve.Query{Kind: 2, A: 1, B: 2}, list(three), Told{}},
		{a, b, serve.Query{Kind: 3, A: 1, Key: "k"}, list("1", "v", noughts), Told{There: true, Value: "v"}},
		{b, a, serve.Query{Kind: 3, A: 2, Key: "k"}, list("1", "", noughts), Told{There: true}},
		{pair, a, serve.Query{Kind: 3, A: 2, Key: "k"}, list("0", "", noughts), Told{}},
		{pair, a, serve.Query{Kind: 3, A: 2, Key: ""}, list("0", "", noughts), Told{}},
	} {
		hold(t, c.a, c.b, c.q, c.answer, c.told)
	}
}

// TestKeys has keys that are there, that were overwritten, by nothing too, that came behind the head only, and that aren't
// there, with all that must be told of them written out.
func TestKeys(t *testing.T) {
	long := strings.Repeat("k", 50)
	l := []api.Request{
		{Leaf: "1", Key: "stays", Value: "s"},
		{Leaf: "2", Key: "changes", Value: "c"},
		{Leaf: "3", Key: "goes", Value: "g"},
		{Leaf: "4"},
		{Leaf: "5", Key: "changes", Value: "d"},
		{Leaf: "6", Key: "goes"},
		{Leaf: "7", Key: long, Value: strings.Repeat("v", 100)},
		{Leaf: "8", Key: "changes", Value: "e"},
		{Leaf: "9", Key: "comes", Value: "n"},
		{Leaf: "10", Key: "stays", Value: "not under a head"},
		{Leaf: "11", Key: "late", Value: "not under a head"},
	}
	for i := range l {
		l[i].Seq = i + 1
	}
	s := script(t, l, 4, 7, 9)
	none := Told{}
	value := func(v string) Told { return Told{There: true, Value: v} }
	for _, c := range []struct {
		key  string
		told [3]Told
	}{
		{"stays", [3]Told{value("s"), value("s"), value("s")}},
		{"changes", [3]Told{value("c"), value("d"), value("e")}},
		{"goes", [3]Told{value("g"), value(""), value("")}},
		{long, [3]Told{none, value(strings.Repeat("v", 100)), value(strings.Repeat("v", 100))}},
		{"comes", [3]Told{none, none, value("n")}},
		{"late", [3]Told{}},
		{"never", [3]Told{}},
		{"", [3]Told{}},
		{long[:49], [3]Told{}},
		{strings.Repeat("\xff", 50), [3]Told{}},
	} {
		for i, x := range c.told {
			q := serve.Query{Kind: 3, A: i + 1, Key: c.key}
			hold(t, s.Heads[i], api.Head{}, q, answer(t, s, q), x)
		}
	}
}

// otherwise answers the head with another number and time.
func otherwise(h api.Head, n int) api.Head {
	h.Seq, h.Time = n, -n
	return h
}

// far are numbers that nothing has.
func far() []int {
	return []int{math.MinInt, math.MinInt32, -1, 0, 3, 65, math.MaxInt32, 1 << 32, math.MaxInt}
}

// TestWhatIsNotLookedAt: of heads that a kind asks of, only a size and a root bear on what is told; of the others nothing.
func TestWhatIsNotLookedAt(t *testing.T) {
	s := sample(t)
	for _, n := range far() {
		junk := api.Head{Seq: n, Size: n, Time: n, Root: strings.Repeat("r", n&63), Map: strings.Repeat("m", n&31)}
		for kind := range 4 {
			for i, q := range queries(s, kind, ordinaryKeys()) {
				if i%7 != 3 && i > 2 {
					continue
				}
				a, b := trusted(s, q)
				x, want := answer(t, s, q), told(s, q)
				switch kind {
				case 0:
					hold(t, junk, junk, q, x, want)
					hold(t, s.Heads[0], junk, q, x, want)
				case 1:
					b = otherwise(b, n)
					hold(t, junk, b, q, x, want)
					b.Map = junk.Map
					hold(t, junk, b, q, x, want)
				case 2:
					a, b = otherwise(a, n), otherwise(b, n/2)
					hold(t, a, b, q, x, want)
					a.Map, b.Map = junk.Map, junk.Root
					hold(t, a, b, q, x, want)
				case 3:
					a = otherwise(a, n)
					hold(t, a, junk, q, x, want)
					a.Size, a.Root = n, junk.Root
					hold(t, a, junk, q, x, want)
				}
			}
		}
	}
}

// TestWhatIsNotAsked: a query's other fields tell nothing. (Of the kind 2 neither number does: its heads are handed in.)
func TestWhatIsNotAsked(t *testing.T) {
	s := sample(t)
	for _, n := range far() {
		for _, key := range []string{"", "key 1", strings.Repeat("k", 51), strings.Repeat("k", 5000)} {
			for _, c := range []struct{ q, other serve.Query }{
				{serve.Query{A: 3}, serve.Query{A: 3, B: n, Key: key}},
				{serve.Query{Kind: 1, A: 4, B: 3}, serve.Query{Kind: 1, A: 4, B: n, Key: key}},
				{serve.Query{Kind: 2, A: 2, B: 4}, serve.Query{Kind: 2, A: n, B: n / 2, Key: key}},
				{serve.Query{Kind: 3, A: 3, Key: "key 1"}, serve.Query{Kind: 3, A: n, B: n / 2, Key: "key 1"}},
				{serve.Query{Kind: 3, A: 3, Key: "none"}, serve.Query{Kind: 3, A: n, B: -n, Key: "none"}},
			} {
				a, b := trusted(s, c.q)
				hold(t, a, b, c.other, answer(t, s, c.q), told(s, c.q))
			}
		}
	}
}

// TestHeadsThatNothingProves: of the kind 0 only the bytes and the number are looked at.
func TestHeadsThatNothingProves(t *testing.T) {
	s := sample(t)
	for _, h := range []api.Head{
		{Root: strings.Repeat("r", 32), Map: strings.Repeat("m", 32)},
		{Seq: 1, Size: math.MaxInt32, Time: 5, Root: strings.Repeat("\x00", 32), Map: strings.Repeat("\xff", 32)},
		{Seq: math.MaxInt32, Time: math.MaxInt32, Root: digest("r"), Map: digest("m")},
	} {
		hold(t, s.Heads[0], s.Heads[1], serve.Query{A: h.Seq}, wire.Head(h), Told{Head: h})
	}
}

// The tests of P14.1: bytes that are no answer's.

// kinds are a query of each kind, and more of those that are answered in several ways.
func kinds() []serve.Query {
	return []serve.Query{
		{A: 3},
		{Kind: 1, A: 0, B: 1},
		{Kind: 1, A: 4, B: 3},
		{Kind: 1, A: 3, B: 6},
		{Kind: 2, A: 2, B: 2},
		{Kind: 2, A: 1, B: 3},
		{Kind: 2, A: 3, B: 6},
		{Kind: 3, A: 3, Key: "key 1"},
		{Kind: 3, A: 6, Key: "key 2"},
		{Kind: 3, A: 6, Key: "none"},
	}
}

func TestNoBytes(t *testing.T) {
	s := sample(t)
	for _, q := range append(kinds(), serve.Query{}) {
		refuse(t, s.Heads[0], s.Heads[2], q, "", api.ErrForm)
		refuse(t, api.Head{}, api.Head{}, q, "", api.ErrForm)
	}
}

func TestBytesCutOrLonger(t *testing.T) {
	s := sample(t)
	for _, q := range kinds() {
		a, b := trusted(s, q)
		x := answer(t, s, q)
		for n := range len(x) {
			refuse(t, a, b, q, x[:n], api.ErrForm)
			refuse(t, a, b, q, x[n+1:], api.ErrForm)
		}
		for _, more := range []string{"\x00", "x", number(0), x} {
			refuse(t, a, b, q, x+more, api.ErrForm)
			refuse(t, a, b, q, more+x, api.ErrForm)
		}
	}
}

// TestFirstLetters has each other one in the place of an answer's own.
func TestFirstLetters(t *testing.T) {
	s := sample(t)
	for _, q := range kinds() {
		a, b := trusted(s, q)
		x := answer(t, s, q)
		for c := range 256 {
			if byte(c) != x[0] {
				refuse(t, a, b, q, string([]byte{byte(c)})+x[1:], api.ErrForm)
			}
		}
	}
}

// TestAListWhereAHeadIs, and the other way round, and a request in the place of either.
func TestAListWhereAHeadIs(t *testing.T) {
	s := sample(t)
	var lists []string
	for _, q := range kinds()[1:] {
		lists = append(lists, answer(t, s, q))
	}
	lists = append(lists, list(), list(answer(t, s, serve.Query{A: 3})), wire.Request(s.Requests[0]), "L"+wire.Head(s.Heads[2])[1:])
	for _, x := range lists {
		for n := range 5 {
			refuse(t, s.Heads[0], s.Heads[2], serve.Query{A: n}, x, api.ErrForm)
		}
	}
	for _, q := range kinds()[1:] {
		a, b := trusted(s, q)
		for _, h := range s.Heads {
			refuse(t, a, b, q, wire.Head(h), api.ErrForm)
		}
		for _, r := range s.Requests {
			refuse(t, a, b, q, wire.Request(r), api.ErrForm)
		}
	}
}

// TestHeadsBytes has those of no head: roots of other lengths, and numbers that are too great.
func TestHeadsBytes(t *testing.T) {
	roots := strings.Repeat("r", 64)
	far := "\x80\x00\x00\x00"
	for _, n := range []int{0, 1, 31, 32, 63, 65, 96} {
		refuse(t, api.Head{}, api.Head{}, serve.Query{A: 1}, "H"+number(1)+number(2)+number(3)+strings.Repeat("r", n), api.ErrForm)
	}
	for _, x := range []string{
		"H" + far + number(2) + number(3) + roots,
		"H" + number(1) + far + number(3) + roots,
		"H" + number(1) + number(2) + far + roots,
	} {
		for _, n := range []int{0, 1, math.MaxInt32, 1 << 31, math.MinInt32} {
			refuse(t, api.Head{}, api.Head{}, serve.Query{A: n}, x, api.ErrForm)
		}
	}
}

// TestListsOfTooManyTexts: of more than 1000 they are none of layer 2's.
func TestListsOfTooManyTexts(t *testing.T) {
	s := sample(t)
	for _, q := range kinds()[1:] {
		a, b := trusted(s, q)
		for _, n := range []int{999, 1000, 1001, 1002} {
			l := make([]string, n)
			l[0] = wire.Request(s.Requests[3])
			e := api.ErrForm
			if n <= 1000 && q.Kind != 3 {
				e = api.ErrProof
			}
			refuse(t, a, b, q, list(l...), e)
		}
		refuse(t, a, b, q, "L\xff\xff\xff\xff", api.ErrForm)
		refuse(t, a, b, q, "L\x7f\xff\xff\xff"+strings.Repeat("\x00", 5000), api.ErrForm)
	}
}

// TestAFirstTextThatIsNoRequest has the rest of the list as it must be, or otherwise: that isn't asked any more.
func TestAFirstTextThatIsNoRequest(t *testing.T) {
	s := sample(t)
	q := serve.Query{Kind: 1, A: 4, B: 3}
	l, _ := readList(answer(t, s, q))
	r := l[0]
	wrong := []string{
		"", "R", r[:len(r)-1], r + "\x00", r[1:], "L" + r[1:], r + r,
		wire.Head(s.Heads[0]), list(r), list(), l[1],
		"R" + number(4) + number(1) + number(1) + "l" + number(0) + number(0),
		"R" + number(0) + number(0) + number(1) + "l" + number(0) + number(0),
		"R" + number(0) + "\x80\x00\x00\x00" + number(1) + "l" + number(0) + number(0),
		"R" + number(0) + number(1) + number(0) + number(0) + number(0),
		"R" + number(0) + number(1) + number(201) + strings.Repeat("l", 201) + number(0) + number(0),
		"R" + number(0) + number(1) + number(1) + "l" + number(51) + strings.Repeat("k", 51) + number(0),
		"R" + number(0) + number(1) + number(1) + "l" + number(1) + "k" + number(101) + strings.Repeat("v", 101),
		"R" + number(0) + number(1) + number(1) + "l" + number(0) + number(1) + "v",
	}
	for _, first := range wrong {
		for _, rest := range [][]string{l[1:], l[2:], nil, {r}, {"x", ""}} {
			for _, h := range []api.Head{s.Heads[2], s.Heads[0], {}} {
				refuse(t, api.Head{}, h, q, list(append([]string{first}, rest...)...), api.ErrForm)
			}
		}
		// Its leaf's hash is the root: still it is no request.
		refuse(t, api.Head{}, api.Head{Size: 1, Root: digest("\x00" + first)}, serve.Query{Kind: 1}, list(first), api.ErrForm)
	}
	refuse(t, api.Head{}, s.Heads[2], q, list(), api.ErrForm)
	refuse(t, api.Head{}, api.Head{}, serve.Query{Kind: 1}, list(), api.ErrForm)
	refuse(t, api.Head{}, api.Head{Size: 1}, serve.Query{Kind: 1}, list(), api.ErrForm)
	refuse(t, api.Head{}, s.Heads[2], q, list(l[1:]...), api.ErrForm)
	refuse(t, api.Head{}, s.Heads[2], q, list(append([]string{l[1], r}, l[2:]...)...), api.ErrForm)
}

// TestListsOfOtherThanThreeTexts, of each of which the first ones, or all, are as they must be.
func TestListsOfOtherThanThreeTexts(t *testing.T) {
	s := sample(t)
	for _, q := range []serve.Query{{Kind: 3, A: 3, Key: "key 1"}, {Kind: 3, A: 6, Key: "none"}, {Kind: 3, A: 6, Key: "key 2"}} {
		a, b := trusted(s, q)
		l, _ := readList(answer(t, s, q))
		for n := range 3 {
			refuse(t, a, b, q, list(l[:n]...), api.ErrForm)
			refuse(t, a, b, q, list(l[n+1:]...), api.ErrForm)
			refuse(t, a, b, q, list(slices.Delete(slices.Clone(l), n, n+1)...), api.ErrForm)
		}
		for n := range 4 {
			for _, more := range []string{"", "0", "1", l[2]} {
				refuse(t, a, b, q, list(slices.Insert(slices.Clone(l), n, more)...), api.ErrForm)
			}
		}
		refuse(t, a, b, q, list(append(l, l...)...), api.ErrForm)
	}
}

// TestAFirstTextThatIsNeitherNoughtNorOne, with a proof that holds, and with others.
func TestAFirstTextThatIsNeitherNoughtNorOne(t *testing.T) {
	s := sample(t)
	for _, q := range []serve.Query{{Kind: 3, A: 3, Key: "key 1"}, {Kind: 3, A: 6, Key: "none"}} {
		a, b := trusted(s, q)
		l, _ := readList(answer(t, s, q))
		for _, first := range []string{"", "2", "00", "01", "10", "11", "1 ", " 1", "0\x00", "\x00", "\x01", "\x30\x31", "true", "-1", "+1", "/", "\u0661", "L"} {
			for _, value := range []string{"", l[1], "v"} {
				for _, proof := range []string{l[2], "", "x"} {
					refuse(t, a, b, q, list(first, value, proof), api.ErrForm)
				}
			}
		}
		for c := range 256 {
			if c != '0' && c != '1' {
				refuse(t, a, b, q, list(string([]byte{byte(c)}), l[1], l[2]), api.ErrForm)
			}
		}
	}
}

// TestAValueBesideNought, with a proof that holds, and with others.
func TestAValueBesideNought(t *testing.T) {
	s := sample(t)
	for _, key := range []string{"none", "key 1", ""} {
		q := serve.Query{Kind: 3, A: 6, Key: key}
		a, b := trusted(s, q)
		l, _ := readList(answer(t, s, q))
		for _, value := range []string{"v", "\x00", "0", "1", " ", strings.Repeat("v", 100), strings.Repeat("v", 101)} {
			for _, proof := range []string{l[2], "", "x"} {
				refuse(t, a, b, q, list("0", value, proof), api.ErrForm)
			}
			refuse(t, api.Head{}, api.Head{}, q, list("0", value, l[2]), api.ErrForm)
		}
	}
	refuse(t, s.Heads[0], s.Heads[0], serve.Query{Kind: 3}, list("0", "v", ""), api.ErrForm)
}

// The tests of P14.1: answers that don't hold.

func TestHeadsOfOtherNumbers(t *testing.T) {
	s := sample(t)
	for _, h := range s.Heads {
		x := wire.Head(h)
		for _, n := range append(far(), 1, 2, 4, 5, 6, 7, h.Seq+1, h.Seq-1, -h.Seq, h.Seq+1<<32, h.Size+64, h.Time+64) {
			if n != h.Seq {
				refuse(t, h, h, serve.Query{A: n, B: h.Seq}, x, api.ErrProof)
			}
		}
	}
}

// TestAnswersToOtherQueries has each answer of a kind looked at for each other query of it.
func TestAnswersToOtherQueries(t *testing.T) {
	t.Parallel()
	s := sample(t)
	for kind := range 4 {
		all := queries(s, kind, ordinaryKeys()[2:7])
		for _, q := range all {
			a, b := trusted(s, q)
			own := answer(t, s, q)
			for _, other := range all {
				if x := answer(t, s, other); x != own {
					refuse(t, a, b, q, x, api.ErrProof)
				}
			}
		}
	}
}

// TestAByteOtherwise: an answer of the kinds 1 to 3 with a byte otherwise is refused; which error it is, the words say.
func TestAByteOtherwise(t *testing.T) {
	t.Parallel()
	s := sample(t)
	for _, q := range kinds()[1:] {
		a, b := trusted(s, q)
		x := answer(t, s, q)
		for i := range len(x) {
			for _, mask := range []byte{0x01, 0x02, 0x10, 0x80, 0xff} {
				y := []byte(x)
				y[i] ^= mask
				if told, e := look(t, a, b, q, string(y)); e == api.OK || told != (Told{}) {
					t.Errorf("%v: of %q: %v, %v", q, y, told, e)
				}
			}
		}
	}
}

// hashes answers those of which the proof of an answer's texts is made. (Of the kind 3 its bits are the first one.)
func hashes(l []string, kind int) []string {
	switch kind {
	case 1:
		return l[1:]
	case 2:
		return l
	}
	var all []string
	for b := l[2]; b != ""; b = b[32:] {
		all = append(all, b[:32])
	}
	return all
}

// with answers the bytes of an answer with another proof.
func with(l []string, kind int, proof []string) string {
	switch kind {
	case 1:
		return list(append([]string{l[0]}, proof...)...)
	case 2:
		return list(proof...)
	}
	return list(l[0], l[1], strings.Join(proof, ""))
}

// TestProofsOtherwise has proofs with a byte otherwise, a hash more or fewer, hashes in another order, and of other lengths.
func TestProofsOtherwise(t *testing.T) {
	t.Parallel()
	s := sample(t)
	for kind := 1; kind <= 3; kind++ {
		for n, q := range queries(s, kind, ordinaryKeys()[:6]) {
			a, b := trusted(s, q)
			l, _ := readList(answer(t, s, q))
			proof := hashes(l, kind)
			try := func(proof []string) {
				t.Helper()
				refuse(t, a, b, q, with(l, kind, proof), api.ErrProof)
			}
			for i := range proof {
				try(slices.Delete(slices.Clone(proof), i, i+1))
				for _, more := range []string{proof[i], digest("x"), strings.Repeat("\x00", 32)} {
					try(slices.Insert(slices.Clone(proof), i, more))
				}
				for _, other := range []string{digest("x"), strings.Repeat("\x00", 32), proof[i][1:], proof[i] + "\x00", "", proof[i][1:] + "\x00", proof[i] + proof[i]} {
					if kind == 3 && i == 0 && other == proof[0] {
						continue
					}
					try(slices.Replace(slices.Clone(proof), i, i+1, other))
				}
				c := []byte(proof[i])
				c[(n+7*i)%32] ^= 1 << (n % 8)
				try(slices.Replace(slices.Clone(proof), i, i+1, string(c)))
				for j := range i {
					if proof[i] != proof[j] {
						swapped := slices.Clone(proof)
						swapped[i], swapped[j] = swapped[j], swapped[i]
						try(swapped)
					}
				}
			}
			for _, more := range []string{digest("x"), strings.Repeat("\x00", 32), b.Root, a.Map} {
				if kind == 3 && more == "" {
					continue
				}
				try(append(slices.Clone(proof), more))
			}
			if kind < 3 {
				try(append(slices.Clone(proof), "")) // a text more, though it has no bytes
				try(append([]string{""}, proof...))
			}
			if len(proof) > 1 {
				try(append(slices.Clone(proof[1:]), proof[0]))
				try(nil)
			}
		}
	}
}

// TestOtherLeaves has another request with the proof of the one that is asked for.
func TestOtherLeaves(t *testing.T) {
	s := sample(t)
	for _, q := range queries(s, 1, nil) {
		_, b := trusted(s, q)
		l, _ := readList(answer(t, s, q))
		r := s.Requests[q.A]
		for i, other := range s.Requests {
			if i != q.A {
				refuse(t, api.Head{}, b, q, with([]string{wire.Request(other)}, 1, l[1:]), api.ErrProof)
			}
		}
		for _, change := range []func(r *api.Request){
			func(r *api.Request) { r.Client = (r.Client + 1) % 4 },
			func(r *api.Request) { r.Seq++ },
			func(r *api.Request) { r.Leaf += "x" },
			func(r *api.Request) { r.Leaf = r.Leaf[1:] },
			func(r *api.Request) { r.Key += "x" },
			func(r *api.Request) { r.Key, r.Value = r.Key+"x", r.Value+"x" },
		} {
			other := r
			change(&other)
			refuse(t, api.Head{}, b, q, with([]string{wire.Request(other)}, 1, l[1:]), api.ErrProof)
		}
	}
}

// TestOtherIndexes has the number of another leaf, or of none, with an answer.
func TestOtherIndexes(t *testing.T) {
	s := sample(t)
	for _, q := range queries(s, 1, nil) {
		_, b := trusted(s, q)
		x := answer(t, s, q)
		for _, i := range append(far(), 1, 2, 4, 7, 8, 10, b.Size-1, b.Size, b.Size+1, b.Size+q.A, -q.A, q.A-b.Size, q.A+1<<32) {
			if i != q.A {
				refuse(t, api.Head{}, b, serve.Query{Kind: 1, A: i, B: q.B}, x, api.ErrProof)
			}
		}
	}
}

// TestOtherSizes has other sizes of the heads with the roots as they are.
func TestOtherSizes(t *testing.T) {
	s := sample(t)
	// A leaf's place, and a beginning's, look the same in trees of some other sizes: there the words say what is told.
	for kind := 1; kind <= 2; kind++ {
		for _, q := range queries(s, kind, nil) {
			a, b := trusted(s, q)
			x := answer(t, s, q)
			for _, n := range append(far(), 1, 2, 4, 5, 6, 7, 8, 11, 12, 64) {
				look(t, api.Head{Size: n, Root: a.Root}, b, q, x)
				look(t, a, api.Head{Size: n, Root: b.Root}, q, x)
			}
			for _, n := range []int{math.MinInt, -1, 0, 65, 66, 128, 1 << 20, math.MaxInt} {
				refuse(t, a, api.Head{Size: n, Root: b.Root}, q, x, api.ErrProof)
				if kind == 2 {
					refuse(t, api.Head{Size: n, Root: a.Root}, b, q, x, api.ErrProof)
				}
			}
		}
	}
	q := serve.Query{Kind: 1, A: 1, B: 2}
	refuse(t, api.Head{}, api.Head{Size: 3, Root: s.Heads[1].Root}, q, answer(t, s, q), api.ErrProof)
	refuse(t, api.Head{}, api.Head{Size: 1, Root: s.Heads[1].Root}, q, answer(t, s, q), api.ErrProof)
	q = serve.Query{Kind: 2, A: 2, B: 3}
	refuse(t, s.Heads[1], api.Head{Size: 4, Root: s.Heads[2].Root}, q, answer(t, s, q), api.ErrProof)
	refuse(t, s.Heads[1], api.Head{Size: 9, Root: s.Heads[2].Root}, q, answer(t, s, q), api.ErrProof)
	refuse(t, api.Head{Size: 1, Root: s.Heads[1].Root}, s.Heads[2], q, answer(t, s, q), api.ErrProof)
	refuse(t, api.Head{Size: 3, Root: s.Heads[1].Root}, s.Heads[2], q, answer(t, s, q), api.ErrProof)
}

// TestOtherRoots has other roots, and roots that are no 32 bytes, of the heads with the sizes as they are.
func TestOtherRoots(t *testing.T) {
	s := sample(t)
	for kind := 1; kind <= 3; kind++ {
		for _, q := range queries(s, kind, ordinaryKeys()[:5]) {
			a, b := trusted(s, q)
			x := answer(t, s, q)
			others := func(root string) []string {
				c := []byte(root)
				c[q.A%32] ^= 0x40
				return []string{"", root[:31], root[1:], root + "\x00", "\x00" + root, root + root, string(c), digest("x"), strings.Repeat("\x00", 32)}
			}
			for _, h := range s.Heads {
				if kind == 1 && h.Root != b.Root {
					refuse(t, b, api.Head{Size: b.Size, Root: h.Root, Map: b.Root}, q, x, api.ErrProof)
				}
				if kind == 2 && h.Root != b.Root {
					refuse(t, a, api.Head{Size: b.Size, Root: h.Root, Map: b.Root}, q, x, api.ErrProof)
				}
				if kind == 2 && h.Root != a.Root {
					refuse(t, api.Head{Size: a.Size, Root: h.Root, Map: a.Root}, b, q, x, api.ErrProof)
				}
				if kind == 3 && h.Map != a.Map {
					refuse(t, api.Head{Size: a.Size, Root: a.Map, Map: h.Map}, a, q, x, api.ErrProof)
				}
			}
			if kind == 3 {
				for _, root := range others(a.Map) {
					refuse(t, api.Head{Size: a.Size, Root: a.Map, Map: root}, a, q, x, api.ErrProof)
				}
				continue
			}
			for _, root := range others(b.Root) {
				refuse(t, a, api.Head{Size: b.Size, Root: root, Map: b.Root}, q, x, api.ErrProof)
			}
			if kind == 2 {
				for _, root := range others(a.Root) {
					refuse(t, api.Head{Size: a.Size, Root: root, Map: a.Root}, b, q, x, api.ErrProof)
				}
			}
		}
	}
}

// TestRootsAsTheyAre: layer 4 takes the roots of one size that are the same, of whatever length.
func TestRootsAsTheyAre(t *testing.T) {
	for _, root := range []string{"", "r", strings.Repeat("r", 31), strings.Repeat("r", 32), strings.Repeat("r", 33)} {
		h := api.Head{Size: 64, Root: root}
		hold(t, h, h, serve.Query{Kind: 2}, list(), Told{})
		refuse(t, h, h, serve.Query{Kind: 2}, list(root), api.ErrProof)
		refuse(t, h, api.Head{Size: 64, Root: root + "x"}, serve.Query{Kind: 2}, list(), api.ErrProof)
		refuse(t, h, api.Head{Size: 63, Root: root}, serve.Query{Kind: 2}, list(), api.ErrProof)
		refuse(t, api.Head{Size: 65, Root: root}, api.Head{Size: 65, Root: root}, serve.Query{Kind: 2}, list(), api.ErrProof)
		refuse(t, api.Head{Root: root}, api.Head{Root: root}, serve.Query{Kind: 2}, list(), api.ErrProof)
		two := api.Head{Size: 2, Root: digest("\x01" + root + "other")}
		hold(t, api.Head{Size: 1, Root: root}, two, serve.Query{Kind: 2}, list("other"), Told{})
	}
}

// TestAHeadBehindAnother: nothing shows that a greater log is a smaller one's beginning.
func TestAHeadBehindAnother(t *testing.T) {
	s := sample(t)
	for _, a := range s.Heads {
		for _, b := range s.Heads[:a.Seq-1] {
			q := serve.Query{Kind: 2, A: a.Seq, B: b.Seq}
			there := answer(t, s, serve.Query{Kind: 2, A: b.Seq, B: a.Seq})
			for _, x := range []string{there, list(), list(a.Root), list(b.Root), list(a.Root, b.Root)} {
				refuse(t, a, b, q, x, api.ErrProof)
			}
			hold(t, b, a, q, there, Told{})
		}
	}
}

// TestOtherKeysAndValues has an answer with another key, another value, and the other one of "1" and "0".
func TestOtherKeysAndValues(t *testing.T) {
	t.Parallel()
	s := sample(t)
	keys := ordinaryKeys()
	for _, q := range queries(s, 3, keys) {
		a, b := trusted(s, q)
		x := answer(t, s, q)
		l, _ := readList(x)
		for _, key := range keys {
			other := serve.Query{Kind: 3, A: q.A, Key: key}
			if l[0] == "1" && key != q.Key {
				refuse(t, a, b, other, x, api.ErrProof)
			}
		}
		if l[0] == "0" {
			for _, value := range []string{"", "v", "0"} {
				refuse(t, a, b, q, list("1", value, l[2]), api.ErrProof)
			}
			continue
		}
		refuse(t, a, b, q, list("0", "", l[2]), api.ErrProof)
		if l[1] != "" {
			refuse(t, a, b, q, list("1", "", l[2]), api.ErrProof)
			refuse(t, a, b, q, list("1", l[1][1:], l[2]), api.ErrProof)
		}
		for _, value := range []string{l[1] + "x", l[1] + "\x00", "x" + l[1], strings.Repeat("v", 100), strings.Repeat("v", 1000)} {
			refuse(t, a, b, q, list("1", value, l[2]), api.ErrProof)
		}
		for i := range s.Requests {
			if v := s.Requests[i].Value; v != l[1] {
				refuse(t, a, b, q, list("1", v, l[2]), api.ErrProof)
			}
		}
	}
}

// TestAKeyAndItsValueApart: bytes of a key are no bytes of its value.
func TestAKeyAndItsValueApart(t *testing.T) {
	s := script(t, []api.Request{{Seq: 1, Leaf: "l", Key: "ab", Value: "cd"}}, 1)
	proof := strings.Repeat("\x00", 32)
	a := s.Heads[0]
	hold(t, a, a, serve.Query{Kind: 3, A: 1, Key: "ab"}, list("1", "cd", proof), Told{There: true, Value: "cd"})
	for _, c := range [][2]string{{"a", "bcd"}, {"abc", "d"}, {"", "abcd"}, {"abcd", ""}, {"cd", "ab"}, {"AB", "cd"}, {"ab\x00", "cd"}} {
		refuse(t, a, a, serve.Query{Kind: 3, A: 1, Key: c[0]}, list("1", c[1], proof), api.ErrProof)
	}
}

// The tests of P14.1: other kinds.

func TestOtherKinds(t *testing.T) {
	s := sample(t)
	answers := []string{"", "x", list(), list("0", "v", "")}
	for _, q := range kinds() {
		answers = append(answers, answer(t, s, q))
	}
	for _, kind := range []int{-1, 4, 5, -2, -3, 255, 256, 259, math.MinInt32, math.MaxInt32, 1 << 32, 1<<32 + 3, math.MinInt, math.MinInt + 3, math.MaxInt} {
		for _, x := range answers {
			for _, q := range append(kinds(), serve.Query{}) {
				q.Kind = kind
				refuse(t, s.Heads[2], s.Heads[2], q, x, api.ErrArg)
				refuse(t, api.Head{}, api.Head{}, q, x, api.ErrArg)
			}
		}
	}
}

// The tests of P14.2.

// TestAnswersHoldWhateverCalls goes on by random calls, and looks at each answer under heads that the client has kept.
func TestAnswersHoldWhateverCalls(t *testing.T) {
	t.Parallel()
	random := rand.New(rand.NewPCG(14, 2))
	for range 6 {
		var s state.State
		var kept []api.Head
		for len(kept) < 7 {
			if random.IntN(4) > 0 {
				r := api.Request{Client: random.IntN(5), Seq: random.IntN(30), Leaf: "l" + strconv.Itoa(random.IntN(9)), Key: strconv.Itoa(random.IntN(6))}
				if random.IntN(3) > 0 {
					r.Value = strconv.Itoa(random.IntN(99))
				}
				s, _ = s.Apply(r)
				continue
			}
			next, cut := s.Cut(table, random.IntN(100))
			if s = next; !cut {
				continue
			}
			q := serve.Query{A: len(kept) + 1}
			h, e := Look(table, api.Head{}, api.Head{}, q, answer(t, s, q))
			if e != api.OK {
				t.Fatal(e)
			}
			kept = append(kept, h.Head)
			for kind := range 4 {
				for _, q := range queries(state.State{Heads: kept}, kind, []string{"0", "3", "5", "none", ""}) {
					a, b := trusted(state.State{Heads: kept}, q)
					hold(t, a, b, q, answer(t, s, q), told(s, q))
				}
			}
		}
	}
}

// TestWhatIsToldIsOne: of whatever bytes that hold, what is told is the same, since no two things hold in one place.
func TestWhatIsToldIsOne(t *testing.T) {
	t.Parallel()
	s := sample(t)
	random := rand.New(rand.NewPCG(14, 3))
	var pool []string
	for kind := 1; kind <= 3; kind++ {
		for _, q := range queries(s, kind, ordinaryKeys()[:5]) {
			l, _ := readList(answer(t, s, q))
			pool = append(pool, l...)
		}
	}
	holds := 0
	for _, q := range kinds()[1:] {
		a, b := trusted(s, q)
		l, _ := readList(answer(t, s, q))
		for range 300 {
			other := slices.Clone(l)
			for i := range other {
				if random.IntN(len(l)+2) == 0 {
					other[i] = pool[random.IntN(len(pool))]
				}
			}
			if x, e := look(t, a, b, q, list(other...)); e == api.OK {
				holds++
				if x != told(s, q) {
					t.Errorf("%v: of %q: %v", q, other, x)
				}
			}
		}
	}
	if holds == 0 {
		t.Error("nothing holds")
	}
}

// TestAnEmptyRootThatIsWrittenOut: layer 5 takes a proof that has it, too, and what is told is the same.
func TestAnEmptyRootThatIsWrittenOut(t *testing.T) {
	s := script(t, []api.Request{{Seq: 1, Leaf: "l", Key: "k", Value: "v"}}, 1)
	proof := strings.Repeat("\x00", 31) + "\x01" + digest("E")
	q := serve.Query{Kind: 3, A: 1, Key: "k"}
	hold(t, s.Heads[0], api.Head{}, q, list("1", "v", proof), Told{There: true, Value: "v"})
	refuse(t, s.Heads[0], api.Head{}, q, list("1", "w", proof), api.ErrProof)
	refuse(t, s.Heads[0], api.Head{}, q, list("0", "", proof), api.ErrProof)
}

// The tests of the rules.

// TestAnyBytes looks at bytes of all sorts under heads of all sorts.
func TestAnyBytes(t *testing.T) {
	t.Parallel()
	s := sample(t)
	random := rand.New(rand.NewPCG(14, 1))
	var whole []string
	for _, q := range kinds() {
		whole = append(whole, answer(t, s, q))
	}
	for range 20000 {
		x := []byte(whole[random.IntN(len(whole))])
		for range random.IntN(4) {
			i := random.IntN(len(x))
			switch random.IntN(4) {
			case 0:
				x[i] = byte(random.IntN(256))
			case 1:
				x = x[:i+1]
			case 2:
				x = append(x, x[i:]...)
			case 3:
				x = slices.Concat(x[:i], []byte{0, 0, 0, byte(random.IntN(40))}, x[i:])
			}
		}
		q := kinds()[random.IntN(len(kinds()))]
		a, b := trusted(s, q)
		look(t, a, b, q, string(x))
	}
}

// TestAnyArgumentsEnd: what isn't a state's head, a query's number or an answer tells nothing beside an error, with whatever
// table.
func TestAnyArgumentsEnd(t *testing.T) {
	t.Parallel()
	s := sample(t)
	long := strings.Repeat("k", 1<<16)
	answers := []string{"", "L", "H", "\xff", long, list(long), list("1", long, long), list(long, "", "")}
	for _, q := range kinds() {
		answers = append(answers, answer(t, s, q))
	}
	heads := []api.Head{{}, s.Heads[2], s.Heads[5], {Size: 64, Root: long, Map: long}}
	for _, n := range far() {
		heads = append(heads, api.Head{Seq: n, Size: n, Time: n, Root: "r"})
	}
	for _, c := range []sha.Table{table, {}} {
		for i, h := range heads {
			for kind := -1; kind <= 4; kind++ {
				for _, n := range far() {
					for _, x := range answers {
						for _, key := range []string{"", "key 1", long[:1<<(i+4)]} {
							q := serve.Query{Kind: kind, A: n, B: n, Key: key}
							if told, e := Look(c, h, heads[(i+3)%len(heads)], q, x); e != api.OK && told != (Told{}) {
								t.Errorf("%v: %v, %v", q, told, e)
							}
						}
					}
				}
			}
		}
	}
}

// TestWhatIsHandedInStays, and is not kept: the same is told of the same again.
func TestWhatIsHandedInStays(t *testing.T) {
	s := sample(t)
	used := sha.Make()
	for _, q := range kinds() {
		a, b := trusted(s, q)
		x := answer(t, s, q)
		before := strings.Clone(x)
		heads := [2]api.Head{a, b}
		first, e := Look(used, a, b, q, x)
		Look(used, b, a, serve.Query{Kind: (q.Kind + 1) % 4}, x)
		again, f := Look(used, a, b, q, x)
		if first != again || e != f || x != before || heads != [2]api.Head{a, b} || used != table {
			t.Errorf("%v: %v, %v, then %v, %v", q, first, e, again, f)
		}
	}
}

// TestTheTableIsTheOneHandedIn: under another table's digests nothing holds.
func TestTheTableIsTheOneHandedIn(t *testing.T) {
	s := sample(t)
	other := sha.Make()
	other.H[0]++
	for _, q := range kinds() {
		a, b := trusted(s, q)
		x := answer(t, s, q)
		e := api.ErrProof
		if q.Kind == 0 || q.Kind == 2 && q.A == q.B { // nothing is digested there
			e = api.OK
		}
		if _, got := Look(other, a, b, q, x); got != e {
			t.Errorf("%v: %v, want %v", q, got, e)
		}
	}
}

// FuzzLook looks at whatever bytes under the sample's heads, and under heads that are handed in.
func FuzzLook(f *testing.F) {
	s := sample(f)
	for _, q := range kinds() {
		f.Add(q.Kind, q.A, q.B, q.Key, answer(f, s, q), 1, "r", "m")
	}
	f.Add(3, 1, 1, "", list("0", "v", ""), 0, "", "")
	f.Add(1, 0, 1, "", list(), 1, "", "")
	f.Add(2, 0, 1, "", list("other"), 2, digest("\x01r"+"other"), "r")
	f.Fuzz(func(t *testing.T, kind, first, second int, key, x string, size int, root, mapped string) {
		if len(key) > 255 { // of such keys layer 5 promises nothing
			return
		}
		q := serve.Query{Kind: kind, A: first, B: second, Key: key}
		a, b := s.Heads[uint(first)%6], s.Heads[uint(second)%6]
		look(t, a, b, q, x)
		look(t, b, a, q, x)
		h := api.Head{Size: size, Root: root, Map: mapped}
		look(t, h, h, q, x)
		look(t, api.Head{Size: 1, Root: mapped, Map: root}, h, q, x)
		q.Kind &= 3
		look(t, a, b, q, x)
	})
}

func BenchmarkLook(b *testing.B) {
	s := script(b, requests(64), 40, 64)
	for _, q := range []serve.Query{{A: 2}, {Kind: 1, A: 20, B: 2}, {Kind: 2, A: 1, B: 2}, {Kind: 3, A: 2, Key: "key 1"}} {
		x := answer(b, s, q)
		b.Run(strconv.Itoa(q.Kind), func(b *testing.B) {
			for b.Loop() {
				Look(table, s.Heads[1], s.Heads[1], q, x)
			}
		})
	}
}
