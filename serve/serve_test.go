package serve

import (
	"encoding/hex"
	"math"
	"math/rand/v2"
	"slices"
	"strconv"
	"strings"
	"testing"

	"annalist/api"
	"annalist/merkle"
	"annalist/sha"
	"annalist/smt"
	"annalist/state"
	"annalist/wire"
)

var table = sha.Make()

// The oracle says what the words of this chapter say, of layers 1, 2, 4 and 5: nothing of this package is in it but Query, and
// nothing of layer 11. A record is the requests that were taken, and the heads that were cut of them.
type record struct {
	l     []api.Request
	heads []api.Head
}

// leaves are the hashes of the first n requests.
func (x record) leaves(n int) []api.Hash {
	l := make([]api.Hash, n)
	for i := range n {
		l[i] = merkle.Leaf(table, wire.Request(x.l[i]))
	}
	return l
}

// behind is the map behind the first n requests.
func (x record) behind(n int) smt.Map {
	m := smt.Map{}
	for _, r := range x.l[:n] {
		if r.Key != "" {
			m[r.Key] = r.Value
		}
	}
	return m
}

// cut answers the record with a head more, if there is something to cut it of.
func (x record) cut(now int) record {
	var last api.Head
	if n := len(x.heads); n > 0 {
		last = x.heads[n-1]
	}
	n := len(x.l)
	if n > last.Size {
		h := api.Head{
			Seq: last.Seq + 1, Size: n, Time: max(now, last.Time, 0),
			Root: merkle.Root(table, x.leaves(n)), Map: smt.Root(table, x.behind(n)),
		}
		x.heads = append(slices.Clone(x.heads), h)
	}
	return x
}

func (x record) isHead(seq int) bool {
	return 1 <= seq && seq <= len(x.heads)
}

// want is what must be answered to q.
func (x record) want(q Query) (string, api.Errno) {
	switch {
	case q.Kind < 0 || q.Kind > 3 || q.Kind == 3 && len(q.Key) > 50:
		return "", api.ErrArg
	case q.Kind != 1 && !x.isHead(q.A) || q.Kind%3 != 0 && !x.isHead(q.B):
		return "", api.ErrRange
	case q.Kind == 1 && (q.A < 0 || q.A >= x.heads[q.B-1].Size) || q.Kind == 2 && q.A > q.B:
		return "", api.ErrRange
	case q.Kind == 0:
		return wire.Head(x.heads[q.A-1]), api.OK
	}
	var l []string
	switch q.Kind {
	case 1:
		proof, _ := merkle.Inclusion(table, x.leaves(x.heads[q.B-1].Size), q.A)
		l = append(l, wire.Request(x.l[q.A]))
		l = append(l, proof...)
	case 2:
		l, _ = merkle.Consistency(table, x.leaves(x.heads[q.B-1].Size), x.heads[q.A-1].Size)
	case 3:
		m := x.behind(x.heads[q.A-1].Size)
		v, ok := m[q.Key]
		l = []string{map[bool]string{false: "0", true: "1"}[ok], v, smt.Prove(table, m, q.Key)}
	}
	return wire.List(l), api.OK
}

// holds tells whether layers 4 and 5 take what is answered to q, under the roots of the heads.
func (x record) holds(q Query, answer string) bool {
	if q.Kind == 0 {
		h, e := wire.ReadHead(answer)
		return e == api.OK && h == x.heads[q.A-1]
	}
	l, e := wire.ReadList(answer)
	if e != api.OK {
		return false
	}
	switch q.Kind {
	case 1:
		h := x.heads[q.B-1]
		return l[0] == wire.Request(x.l[q.A]) && merkle.Included(table, merkle.Leaf(table, l[0]), q.A, h.Size, l[1:], h.Root)
	case 2:
		a, b := x.heads[q.A-1], x.heads[q.B-1]
		return merkle.Consistent(table, a.Size, b.Size, a.Root, b.Root, l)
	}
	return len(l) == 3 && (l[0] == "1" || l[0] == "0" && l[1] == "") &&
		smt.Verify(table, x.heads[q.A-1].Map, q.Key, l[1], l[0] == "1", l[2])
}

// kept answers a copy of the state that no call has seen.
func kept(s state.State) state.State {
	return state.State{Requests: slices.Clone(s.Requests), Clients: s.Clients, Heads: slices.Clone(s.Heads)}
}

// same tells whether two states are one.
func same(a, b state.State) bool {
	return slices.Equal(a.Requests, b.Requests) && a.Clients == b.Clients && slices.Equal(a.Heads, b.Heads)
}

// walk is a state that layer 11's calls make, and what there must be in it.
type walk struct {
	t testing.TB
	s state.State
	x record
}

// ask lets r be taken. (Scripts ask nothing that isn't.)
func (w *walk) ask(r api.Request) {
	w.t.Helper()
	next, reply := w.s.Apply(r)
	if reply.Err != api.OK || reply.Index != len(w.x.l) {
		w.t.Fatalf("%v isn't taken: %v", r, reply)
	}
	w.s = next
	w.x.l = append(slices.Clone(w.x.l), r)
}

func (w *walk) cut(now int) {
	w.t.Helper()
	w.s, _ = w.s.Cut(table, now)
	w.x = w.x.cut(now)
	if !slices.Equal(w.s.Heads, w.x.heads) {
		w.t.Fatalf("heads %v, want %v", w.s.Heads, w.x.heads)
	}
}

// look asks q, and holds what is answered against the words.
func (w *walk) look(q Query) {
	w.t.Helper()
	answer, e := Answer(table, w.s, q)
	want, wantErr := w.x.want(q)
	if answer != want || e != wantErr {
		w.t.Fatalf("%d requests, heads %v: %v: %q, %v, want %q, %v", len(w.x.l), w.x.heads, q, answer, e, want, wantErr)
	}
	if e == api.OK && !w.x.holds(q, answer) {
		w.t.Fatalf("%d requests, heads %v: %v: %q doesn't hold", len(w.x.l), w.x.heads, q, answer)
	}
}

// lookAll asks all that there is to ask of the heads, and just beyond it, and of the keys.
func (w *walk) lookAll(keys []string) {
	w.t.Helper()
	before := kept(w.s)
	for _, q := range w.x.queries(keys) {
		w.look(q)
	}
	if !same(w.s, before) {
		w.t.Fatalf("what was handed in is otherwise: %v, was %v", w.s, before)
	}
}

// queries are those of each kind, of all heads, leaves and keys, and those just beyond them.
func (x record) queries(keys []string) []Query {
	var l []Query
	for a := range len(x.heads) + 2 {
		l = append(l, Query{A: a})
		for b := range len(x.heads) + 2 {
			l = append(l, Query{Kind: 2, A: a, B: b})
		}
		for _, key := range keys {
			l = append(l, Query{Kind: 3, A: a, Key: key})
		}
		for i := -1; i <= len(x.l)+1; i++ {
			l = append(l, Query{Kind: 1, A: i, B: a})
		}
	}
	return l
}

// request answers an ordinary one. Its key is one of a few, so that most are overwritten, or there is none.
func request(client, seq int) api.Request {
	n := 7*client + 3*seq
	r := api.Request{Client: client, Seq: seq, Leaf: "leaf " + strconv.Itoa(client) + " " + strconv.Itoa(seq)}
	if n%5 != 0 {
		r.Key = "key " + strconv.Itoa(n%4)
	}
	if n%5 > 1 {
		r.Value = "value " + strconv.Itoa(n)
	}
	return r
}

// fill lets the four clients in turn ask for n ordinary requests more.
func (w *walk) fill(n int) {
	w.t.Helper()
	for range n {
		i := len(w.x.l)
		w.ask(request(i%4, i/4+1))
	}
}

// ordinaryKeys are those of the ordinary requests, and some that aren't put.
func ordinaryKeys() []string {
	return []string{"key 0", "key 1", "key 2", "key 3", "key 4", "", "key ", "\x00", strings.Repeat("k", 50)}
}

// sample is a log that is longer than its last head.
func sample(t testing.TB) *walk {
	w := &walk{t: t}
	for i, n := range []int{2, 3, 1, 5} {
		w.fill(n)
		w.cut(10 * i)
	}
	w.fill(2)
	return w
}

// list writes texts as layer 2's chapter says, without its package.
func list(l ...string) string {
	b := "L" + string([]byte{0, 0, 0, byte(len(l))})
	for _, text := range l {
		b += string([]byte{0, 0, byte(len(text) >> 8), byte(len(text))}) + text
	}
	return b
}

// unhex answers the bytes of a digest as it is commonly written.
func unhex(t *testing.T, text string) string {
	t.Helper()
	b, err := hex.DecodeString(text)
	if err != nil || len(b) != 32 {
		t.Fatalf("%q: %v", text, err)
	}
	return string(b)
}

// The tests of P13.1: what is answered.

func TestEmptyState(t *testing.T) {
	w := walk{t: t}
	w.lookAll(ordinaryKeys())
	w.cut(7) // there is nothing to cut a head of
	w.lookAll(ordinaryKeys())
	for _, a := range []int{math.MinInt, -1, 0, 1, 2, math.MaxInt} {
		for _, b := range []int{math.MinInt, -1, 0, 1, 2, math.MaxInt} {
			for kind := range 4 {
				if answer, e := Answer(table, state.State{}, Query{kind, a, b, "k"}); answer != "" || e != api.ErrRange {
					t.Errorf("%d, %d, %d: %q, %v", kind, a, b, answer, e)
				}
			}
		}
	}
}

// TestLogWithoutHeads has leaves, but nothing is proved of them.
func TestLogWithoutHeads(t *testing.T) {
	w := walk{t: t}
	w.fill(5)
	w.lookAll(ordinaryKeys())
	for kind := range 4 {
		for a := range 6 {
			if answer, e := Answer(table, w.s, Query{Kind: kind, A: a, Key: "key 1"}); answer != "" || e != api.ErrRange {
				t.Errorf("%d, %d: %q, %v", kind, a, answer, e)
			}
		}
	}
}

// TestExample is the chapter's.
func TestExample(t *testing.T) {
	w := walk{t: t}
	w.ask(api.Request{Seq: 1, Leaf: "a"})
	w.cut(1)
	want := "L\x00\x00\x00\x03" + "\x00\x00\x00\x010" + "\x00\x00\x00\x00" + "\x00\x00\x00\x20" + strings.Repeat("\x00", 32)
	for _, key := range []string{"k", "", "a", strings.Repeat("k", 50)} {
		if answer, e := Answer(table, w.s, Query{Kind: 3, A: 1, Key: key}); answer != want || e != api.OK {
			t.Errorf("%q: %q, %v", key, answer, e)
		}
	}
	w.lookAll(ordinaryKeys())
}

// TestBytesByHand has whole answers written out.
func TestBytesByHand(t *testing.T) {
	w := walk{t: t}
	w.ask(api.Request{Client: 1, Seq: 2, Leaf: "a", Key: "k", Value: "v"})
	w.cut(3)
	w.ask(api.Request{Client: 0, Seq: 1, Leaf: "b", Key: "k"})
	w.ask(api.Request{Client: 3, Seq: 7, Leaf: "c"})
	w.cut(258)
	first := "R\x00\x00\x00\x01\x00\x00\x00\x02\x00\x00\x00\x01a\x00\x00\x00\x01k\x00\x00\x00\x01v"
	second := "R\x00\x00\x00\x00\x00\x00\x00\x01\x00\x00\x00\x01b\x00\x00\x00\x01k\x00\x00\x00\x00"
	third := "R\x00\x00\x00\x03\x00\x00\x00\x07\x00\x00\x00\x01c\x00\x00\x00\x00\x00\x00\x00\x00"
	one, two, three := sha.Sum(table, "\x00"+first), sha.Sum(table, "\x00"+second), sha.Sum(table, "\x00"+third)
	both := sha.Sum(table, "\x01"+one+two)
	noughts := strings.Repeat("\x00", 32)
	for _, c := range []struct {
		q    Query
		want string
	}{
		{Query{A: 1}, "H\x00\x00\x00\x01\x00\x00\x00\x01\x00\x00\x00\x03" + one + w.x.heads[0].Map},
		{Query{A: 2}, "H\x00\x00\x00\x02\x00\x00\x00\x03\x00\x00\x01\x02" + sha.Sum(table, "\x01"+both+three) + w.x.heads[1].Map},
		{Query{Kind: 1, A: 0, B: 1}, list(first)},
		{Query{Kind: 1, A: 0, B: 2}, list(first, two, three)},
		{Query{Kind: 1, A: 1, B: 2}, list(second, one, three)},
		{Query{Kind: 1, A: 2, B: 2}, list(third, both)},
		{Query{Kind: 2, A: 1, B: 1}, "L\x00\x00\x00\x00"},
		{Query{Kind: 2, A: 2, B: 2}, "L\x00\x00\x00\x00"},
		{Query{Kind: 2, A: 1, B: 2}, list(two, three)},
		{Query{Kind: 3, A: 1, Key: "k"}, list("1", "v", noughts)},
		{Query{Kind: 3, A: 2, Key: "k"}, list("1", "", noughts)},
		{Query{Kind: 3, A: 2, Key: ""}, list("0", "", smt.Prove(table, smt.Map{"k": ""}, ""))},
	} {
		if answer, e := Answer(table, w.s, c.q); answer != c.want || e != api.OK {
			t.Errorf("%v: %q, %v, want %q", c.q, answer, e, c.want)
		}
	}
	w.lookAll([]string{"k", "", "j"})
}

func TestEachClientsOnlyRequest(t *testing.T) {
	for client := range 4 {
		for _, seq := range []int{1, 2, 256, math.MaxInt32} {
			w := walk{t: t}
			w.ask(request(client, seq))
			w.cut(client)
			w.lookAll([]string{"key 0", "key 1", "key 2", "key 3"})
		}
	}
}

// TestEachStepOfAScript looks at each state that there is on the way to a greater one.
func TestEachStepOfAScript(t *testing.T) {
	w := walk{t: t}
	for i := range 14 {
		w.fill(1)
		w.lookAll(ordinaryKeys()[:3])
		if i%3 != 1 {
			w.cut(100 - i)
			w.lookAll(ordinaryKeys()[3:6])
		}
	}
}

// TestAHeadBehindEachRequest has as many heads as there may be, so that each pair of sizes is asked.
func TestAHeadBehindEachRequest(t *testing.T) {
	t.Parallel()
	w := walk{t: t}
	for i := range 64 {
		w.fill(1)
		w.cut(i)
	}
	w.lookAll([]string{"key 1", "none"})
}

// TestFullLog has few heads of it, and the log's every leaf with as many bytes as it may have.
func TestFullLog(t *testing.T) {
	t.Parallel()
	w := walk{t: t}
	for i := range 64 {
		r := request(i%4, i/4+1)
		r.Leaf = strings.Repeat(string(rune('a'+i%26)), 200-i/26)
		r.Key = strings.Repeat(string(rune('k'+i%3)), 50-i%2)
		r.Value = strings.Repeat(string(rune('0'+i%10)), 100-i/10)
		w.ask(r)
		if i == 0 || i == 32 || i == 62 {
			w.cut(math.MaxInt32)
		}
	}
	w.lookAll([]string{strings.Repeat("k", 50), strings.Repeat("k", 49), strings.Repeat("l", 50), strings.Repeat("n", 50)})
}

// TestKeys has keys that are there, that were overwritten, by nothing too, that came behind the head only, and that aren't
// there, with all that must be told of them written out.
func TestKeys(t *testing.T) {
	w := walk{t: t}
	long := strings.Repeat("k", 50)
	for i, r := range []api.Request{
		{Leaf: "1", Key: "stays", Value: "s"},
		{Leaf: "2", Key: "changes", Value: "c"},
		{Leaf: "3", Key: "goes", Value: "g"},
		{Leaf: "4"},
		{Leaf: "5", Key: "changes", Value: "d"},
		{Leaf: "6", Key: "goes"},
		{Leaf: "7", Key: long, Value: strings.Repeat("v", 100)},
		{Leaf: "8", Key: "changes", Value: "e"},
		{Leaf: "9", Key: "comes", Value: "n"},
	} {
		r.Seq = i + 1
		w.ask(r)
		if i == 3 || i == 6 {
			w.cut(i)
		}
	}
	w.cut(9)
	w.ask(api.Request{Seq: 20, Leaf: "10", Key: "stays", Value: "not under a head"})
	w.ask(api.Request{Seq: 21, Leaf: "11", Key: "late", Value: "not under a head"})
	for key, told := range map[string][3][2]string{
		"stays":                    {{"1", "s"}, {"1", "s"}, {"1", "s"}},
		"changes":                  {{"1", "c"}, {"1", "d"}, {"1", "e"}},
		"goes":                     {{"1", "g"}, {"1", ""}, {"1", ""}},
		long:                       {{"0", ""}, {"1", strings.Repeat("v", 100)}, {"1", strings.Repeat("v", 100)}},
		"comes":                    {{"0", ""}, {"0", ""}, {"1", "n"}},
		"late":                     {{"0", ""}, {"0", ""}, {"0", ""}},
		"never":                    {{"0", ""}, {"0", ""}, {"0", ""}},
		"":                         {{"0", ""}, {"0", ""}, {"0", ""}},
		strings.Repeat("k", 49):    {{"0", ""}, {"0", ""}, {"0", ""}},
		strings.Repeat("\xff", 50): {{"0", ""}, {"0", ""}, {"0", ""}},
	} {
		for i, pair := range told {
			q := Query{Kind: 3, A: i + 1, Key: key}
			answer, e := Answer(table, w.s, q)
			l, _ := wire.ReadList(answer)
			if e != api.OK || len(l) != 3 || l[0] != pair[0] || l[1] != pair[1] {
				t.Errorf("%v: %q, %v", q, l, e)
				continue
			}
			if !smt.Verify(table, w.s.Heads[i].Map, key, pair[1], pair[0] == "1", l[2]) {
				t.Errorf("%v: %q doesn't hold", q, l)
			}
			w.look(q)
		}
	}
}

// TestManyKeys has a map of a key each request.
func TestManyKeys(t *testing.T) {
	t.Parallel()
	w := walk{t: t}
	var keys []string
	for i := range 64 {
		key := strconv.Itoa(i * i)
		w.ask(api.Request{Client: i % 4, Seq: i + 1, Leaf: "l", Key: key, Value: strings.Repeat("v", i)})
		if i%9 == 0 {
			keys = append(keys, key, "no"+key)
		}
		if i == 20 || i == 63 {
			w.cut(i)
		}
	}
	for _, key := range keys {
		for seq := 1; seq <= 2; seq++ {
			w.look(Query{Kind: 3, A: seq, Key: key})
		}
	}
}

// few and many are requests of which another program has reckoned the answers, of the words alone.
func few() []api.Request {
	return []api.Request{
		{Client: 1, Seq: 2, Leaf: "a", Key: "k", Value: "v"},
		{Client: 0, Seq: 1, Leaf: "b", Key: "k"},
		{Client: 3, Seq: math.MaxInt32, Leaf: "\x00\xff"},
		{Client: 2, Seq: 7, Leaf: strings.Repeat("l", 200), Key: strings.Repeat("k", 50), Value: strings.Repeat("v", 100)},
		{Client: 1, Seq: 3, Leaf: "a"},
		{Client: 0, Seq: 9, Leaf: "c", Key: "j", Value: "w"},
		{Client: 2, Seq: 8, Leaf: "d", Key: "k", Value: "again"},
	}
}

func many() []api.Request {
	var l []api.Request
	for i := range 64 {
		r := api.Request{Client: i % 4, Seq: 1 + i/4, Leaf: "leaf " + strconv.Itoa(i)}
		if i%5 != 4 {
			r.Key = "key " + strconv.Itoa(i%23)
		}
		if i%5 != 4 && i%7 != 3 {
			r.Value = "value " + strconv.Itoa(i)
		}
		l = append(l, r)
	}
	return l
}

func TestReckonedElsewhere(t *testing.T) {
	type total struct {
		count, size int
		digest      string
	}
	for i, c := range []struct {
		l     []api.Request
		times map[int]int // of the heads, by their sizes
		keys  []string
		want  [4]total // of each kind: how many answers, their bytes, and the digest of all these
	}{
		{few(), map[int]int{1: 0, 2: 5, 4: 5, 7: math.MaxInt32}, []string{"k", "", strings.Repeat("k", 50), "j", "other"}, [4]total{
			{4, 308, "3e950c8f077f77686669b4fb505397656936792e235091d28564b9dcf36d9b00"},
			{14, 2233, "3e3de2a31fbe14a983e60841ab9829ec45045580314cade914f4adc5b049e85c"},
			{10, 410, "c755b6630b3185dadfdc103ea9b412d1f8c525c5611ee05d98a635aa5bc91a5b"},
			{20, 2007, "941173eec8df97dcf8d2443eaa6d84654e55826fe2abbdfb040eb402d9391898"},
		}},
		{many(), map[int]int{1: 12, 8: 12, 33: 13, 63: math.MaxInt32 - 1, 64: math.MaxInt32}, []string{"key 0", "key 7", "key 22", "", "key 23", "other"}, [4]total{
			{5, 385, "5a9e26003a3d99d60e32dd5210d9089170b81d7693fa6e31047fe8ece41a7aa7"},
			{169, 43102, "3e7001eb11a08786852deb5d0377492a760aae650967727a13823da24a051c75"},
			{15, 1911, "8973ed00657a458bc67eba14a6dfaeb076d0df6d9bfbfe11548555772541ec5c"},
			{30, 4937, "ce0334b33733301111ac9bda3ae2af4fd68d7c3b47a5bc186d3dd6db6f4c1178"},
		}},
	} {
		var s state.State
		for _, r := range c.l {
			s, _ = s.Apply(r)
			if now, there := c.times[len(s.Requests)]; there {
				s, _ = s.Cut(table, now)
			}
		}
		var got [4]total
		var all [4]string
		take := func(q Query) {
			answer, e := Answer(table, s, q)
			if e != api.OK {
				t.Errorf("%d: %v: %v", i, q, e)
			}
			got[q.Kind].count++
			all[q.Kind] += answer
		}
		for _, h := range s.Heads {
			take(Query{A: h.Seq})
			for leaf := range h.Size {
				take(Query{Kind: 1, A: leaf, B: h.Seq})
			}
			for a := range h.Seq {
				take(Query{Kind: 2, A: a + 1, B: h.Seq})
			}
			for _, key := range c.keys {
				take(Query{Kind: 3, A: h.Seq, Key: key})
			}
		}
		for kind := range 4 {
			got[kind].size = len(all[kind])
			got[kind].digest = hex.EncodeToString([]byte(sha.Sum(table, all[kind])))
			if got[kind] != c.want[kind] {
				t.Errorf("%d, kind %d: %v, want %v", i, kind, got[kind], c.want[kind])
			}
		}
	}
}

// TestWhatIsNotAsked: a query's other fields tell nothing.
func TestWhatIsNotAsked(t *testing.T) {
	w := sample(t)
	far := []int{math.MinInt, -1, 0, 1, 4, 5, math.MaxInt}
	keys := []string{"", "key 1", strings.Repeat("k", 51), strings.Repeat("k", 5000)}
	for _, b := range far {
		for _, key := range keys {
			for a := 1; a <= 4; a++ {
				want, _ := w.x.want(Query{A: a})
				if answer, e := Answer(table, w.s, Query{Kind: 0, A: a, B: b, Key: key}); answer != want || e != api.OK {
					t.Errorf("the head %d, with %d and %q: %q, %v", a, b, key, answer, e)
				}
			}
		}
		want, _ := w.x.want(Query{Kind: 3, A: 2, Key: "key 1"})
		if answer, e := Answer(table, w.s, Query{Kind: 3, A: 2, B: b, Key: "key 1"}); answer != want || e != api.OK {
			t.Errorf("the key, with %d: %q, %v", b, answer, e)
		}
	}
	for _, key := range keys {
		for kind := 1; kind <= 2; kind++ {
			for _, pair := range [][2]int{{0, 1}, {1, 1}, {2, 3}, {4, 4}, {3, 2}, {5, 4}, {6, 5}, {11, 4}, {-1, 4}} {
				q := Query{Kind: kind, A: pair[0], B: pair[1]}
				want, wantErr := w.x.want(q)
				q.Key = key
				if answer, e := Answer(table, w.s, q); answer != want || e != wantErr {
					t.Errorf("%v: %q, %v, want %q, %v", q, answer, e, want, wantErr)
				}
			}
		}
	}
}

// The tests of P13.1: errors.

// refuse fails if q isn't refused so, or if something is answered beside.
func refuse(t *testing.T, s state.State, q Query, want api.Errno) {
	t.Helper()
	if answer, e := Answer(table, s, q); answer != "" || e != want {
		t.Errorf("%v: %q, %v, want %v", q, answer, e, want)
	}
}

// someStates are the empty one, one without heads, and one with four.
func someStates(t *testing.T) []state.State {
	bare := &walk{t: t}
	bare.fill(3)
	return []state.State{{}, bare.s, sample(t).s}
}

func TestOtherKinds(t *testing.T) {
	for _, s := range someStates(t) {
		for _, kind := range []int{-1, 4, 5, -2, -3, 255, 256, 259, math.MinInt32, math.MaxInt32, 1 << 32, 1<<32 + 3, math.MinInt, math.MinInt + 3, math.MaxInt} {
			for _, a := range []int{-1, 0, 1, 4, 5} {
				for _, key := range []string{"", "key 1", strings.Repeat("k", 51)} {
					refuse(t, s, Query{Kind: kind, A: a, B: 1, Key: key}, api.ErrArg)
				}
			}
		}
	}
}

func TestKeysThatAreTooLong(t *testing.T) {
	for _, s := range someStates(t) {
		for _, n := range []int{51, 52, 100, 255, 256, 256 + 50, 1 << 16} {
			for _, a := range []int{math.MinInt, -1, 0, 1, 4, 5, math.MaxInt} { // whether the head is there isn't asked any more
				refuse(t, s, Query{Kind: 3, A: a, Key: strings.Repeat("k", n)}, api.ErrArg)
			}
		}
		for _, a := range []int{math.MinInt, -1, 0, 5, math.MaxInt} {
			refuse(t, s, Query{Kind: 3, A: a, Key: strings.Repeat("k", 50)}, api.ErrRange)
		}
	}
	w := sample(t)
	for n := range 51 {
		w.look(Query{Kind: 3, A: 1 + n%4, Key: strings.Repeat("k", n)})
	}
	w.look(Query{Kind: 3, A: 4, Key: strings.Repeat("\u00e9", 25)})
	refuse(t, w.s, Query{Kind: 3, A: 4, Key: strings.Repeat("\u00e9", 26)}, api.ErrArg) // 26 runes, but 52 bytes
}

// notHeads are the numbers of no head of the sample's.
func notHeads() []int {
	return []int{0, -1, -2, -4, 5, 6, 64, 255, 256, 257, math.MinInt32, math.MaxInt32, 1 << 32, 1<<32 + 1, -1<<32 + 1, math.MinInt, math.MinInt + 1, math.MaxInt}
}

func TestHeadsThatAreNotThere(t *testing.T) {
	s := sample(t).s
	for _, n := range notHeads() {
		refuse(t, s, Query{A: n}, api.ErrRange)
		for _, key := range []string{"key 1", "none", ""} {
			refuse(t, s, Query{Kind: 3, A: n, Key: key}, api.ErrRange)
		}
		for i := -1; i < 14; i++ {
			refuse(t, s, Query{Kind: 1, A: i, B: n}, api.ErrRange)
		}
		for seq := 1; seq <= 4; seq++ {
			refuse(t, s, Query{Kind: 2, A: n, B: seq}, api.ErrRange)
			refuse(t, s, Query{Kind: 2, A: seq, B: n}, api.ErrRange)
		}
		for _, other := range notHeads() {
			refuse(t, s, Query{Kind: 1, A: other, B: n}, api.ErrRange)
			refuse(t, s, Query{Kind: 2, A: other, B: n}, api.ErrRange)
		}
	}
}

// TestLeavesThatAreNotBelow has the sizes of the sample's heads written out.
func TestLeavesThatAreNotBelow(t *testing.T) {
	w := sample(t)
	for i, size := range []int{2, 5, 6, 11} {
		for _, leaf := range []int{-1, -2, -size, size, size + 1, 11, 12, 13, 14, 64, math.MinInt, math.MinInt + 1, math.MinInt32, math.MaxInt32, 1 << 32, math.MaxInt} {
			refuse(t, w.s, Query{Kind: 1, A: leaf, B: i + 1}, api.ErrRange)
		}
		w.look(Query{Kind: 1, A: size - 1, B: i + 1})
		if _, e := Answer(table, w.s, Query{Kind: 1, A: size - 1, B: i + 1}); e != api.OK {
			t.Errorf("the leaf %d: %v", size-1, e)
		}
	}
}

func TestHeadsBehindOthers(t *testing.T) {
	w := sample(t)
	for b := 1; b <= 4; b++ {
		for a := 1; a <= 4; a++ {
			q := Query{Kind: 2, A: a, B: b}
			if a > b {
				refuse(t, w.s, q, api.ErrRange)
			} else if _, e := Answer(table, w.s, q); e != api.OK {
				t.Errorf("%v: %v", q, e)
			}
		}
	}
}

// TestAnyQuery asks the sample whatever may be put together of near and far numbers.
func TestAnyQuery(t *testing.T) {
	t.Parallel()
	w := sample(t)
	numbers := []int{math.MinInt, -1, 0, 1, 2, 4, 5, 10, 11, 12, math.MaxInt}
	for _, kind := range []int{math.MinInt, -1, 0, 1, 2, 3, 4, math.MaxInt} {
		for _, a := range numbers {
			for _, b := range numbers {
				for _, n := range []int{0, 50, 51} {
					w.look(Query{kind, a, b, strings.Repeat("k", n)})
				}
			}
		}
	}
}

// The tests of P13.2.

// given are answers that were given for heads.
type given map[Query]string

// remember keeps what is answered for the heads that are there.
func (w *walk) remember(seen given, keys []string) {
	w.t.Helper()
	for _, q := range w.x.queries(keys) {
		answer, e := Answer(table, w.s, q)
		if old, there := seen[q]; there && (old != answer || e != api.OK) {
			w.t.Fatalf("%v: %q, %v, was %q", q, answer, e, old)
		}
		if e == api.OK {
			seen[q] = answer
		}
	}
}

func TestAnswersStay(t *testing.T) {
	seen := given{}
	keys := []string{"key 0", "key 1", "later", "none", ""}
	w := walk{t: t}
	for i := range 12 {
		w.fill(1)
		w.remember(seen, keys)
		if i%3 == 0 {
			w.cut(i)
			w.remember(seen, keys)
			w.cut(99) // there is nothing new to cut a head of
		}
	}
	for i, r := range []api.Request{ // what was put is put again, and what wasn't there comes
		{Client: 0, Seq: 100, Leaf: "x", Key: "key 0", Value: "otherwise"},
		{Client: 1, Seq: 100, Leaf: "y", Key: "later", Value: "now"},
		{Client: 2, Seq: 100, Leaf: "z", Key: "key 1"},
	} {
		w.ask(r)
		w.remember(seen, keys)
		w.cut(200 + i)
		w.remember(seen, keys)
	}
	for range 3 { // requests that are not taken
		next, reply := w.s.Apply(api.Request{Client: 0, Seq: 1, Leaf: "old"})
		if reply.Err != api.ErrOld {
			t.Fatal(reply)
		}
		w.s = next
		w.remember(seen, keys)
	}
	if want := 7 * 5; len(seen) < want {
		t.Errorf("%d answers", len(seen))
	}
}

// TestAnswersStayWhateverCalls goes on from one state by random calls.
func TestAnswersStayWhateverCalls(t *testing.T) {
	t.Parallel()
	random := rand.New(rand.NewPCG(13, 2))
	start := sample(t)
	seen := given{}
	start.remember(seen, ordinaryKeys()[:2])
	for range 6 {
		s := start.s
		for range 30 {
			if random.IntN(4) > 0 {
				s, _ = s.Apply(request(random.IntN(5), random.IntN(20)))
			} else if len(s.Heads) < 8 {
				s, _ = s.Cut(table, random.IntN(100))
			}
		}
		if len(s.Requests) <= len(start.s.Requests) {
			t.Error("nothing was taken")
		}
		for q, want := range seen {
			if answer, e := Answer(table, s, q); answer != want || e != api.OK {
				t.Fatalf("%v: %q, %v, was %q", q, answer, e, want)
			}
		}
	}
}

// TestEachTimeTheSame asks in one order and in the other one.
func TestEachTimeTheSame(t *testing.T) {
	w := sample(t)
	l := w.x.queries(ordinaryKeys()[:4])
	seen := given{}
	for _, q := range l {
		seen[q], _ = Answer(table, w.s, q)
	}
	slices.Reverse(l)
	for _, q := range l {
		if answer, _ := Answer(table, w.s, q); answer != seen[q] {
			t.Errorf("%v: %q, was %q", q, answer, seen[q])
		}
	}
}

// The tests of R5: what is handed in stays.

func TestWhatIsHandedInStays(t *testing.T) {
	w := sample(t)
	spare, spareHead := api.Request{Leaf: "spare"}, api.Head{Seq: -1}
	requests := append(slices.Clone(w.s.Requests), spare, spare)
	heads := append(slices.Clone(w.s.Heads), spareHead, spareHead)
	before, beforeHeads, clients := slices.Clone(requests), slices.Clone(heads), w.s.Clients
	s := w.s
	s.Requests, s.Heads = requests[:len(w.s.Requests)], heads[:len(w.s.Heads)]
	for _, q := range append(w.x.queries(ordinaryKeys()), Query{Kind: 4}, Query{Kind: -1}, Query{Kind: 3, A: 1, Key: strings.Repeat("k", 51)}) {
		Answer(table, s, q)
		if !slices.Equal(requests, before) || !slices.Equal(heads, beforeHeads) || s.Clients != clients {
			t.Fatalf("%v: %v, %v", q, requests, heads)
		}
	}
	if len(s.Requests) != len(w.s.Requests) || len(s.Heads) != len(w.s.Heads) {
		t.Errorf("%v", s)
	}
}

// TestNothingIsKept has a state whose lists are changed when it was answered of.
func TestNothingIsKept(t *testing.T) {
	w := sample(t)
	q := Query{Kind: 1, A: 1, B: 2}
	want, _ := w.x.want(q)
	s := kept(w.s)
	answer, _ := Answer(table, s, q)
	clear(s.Requests)
	clear(s.Heads)
	refuse(t, s, q, api.ErrRange)
	if again, e := Answer(table, w.s, q); answer != want || again != want || e != api.OK {
		t.Errorf("%q, %q, %v", answer, again, e)
	}
}

// The tests of R1.

// TestAnyArgumentsEnd has states that no call makes, and a table that isn't Make's: nothing is promised of them but that calls
// end, and that nothing is answered beside an error.
func TestAnyArgumentsEnd(t *testing.T) {
	t.Parallel()
	wrong := api.Request{Client: -5, Seq: -5, Key: strings.Repeat("k", 300), Value: "v"}
	head := func(size int) api.Head { return api.Head{Size: size} }
	for _, s := range []state.State{
		{},
		sample(t).s,
		{Heads: []api.Head{head(0), head(1), head(-1)}},
		{Requests: make([]api.Request, 3), Heads: []api.Head{head(5), head(math.MaxInt), head(2)}},
		{Requests: []api.Request{wrong, wrong}, Heads: []api.Head{head(math.MinInt), head(2), head(1)}},
		{Requests: make([]api.Request, 1500), Heads: []api.Head{head(1200), head(-7), {Seq: -1, Size: 1500, Time: -1, Root: "r", Map: "m"}}},
	} {
		for _, kind := range []int{math.MinInt, -1, 0, 1, 2, 3, 4, math.MaxInt} {
			for _, a := range []int{math.MinInt, -1, 0, 1, 2, 3, 4, 1400, math.MaxInt} {
				for _, b := range []int{math.MinInt, 0, 1, 2, 3, math.MaxInt} {
					for _, c := range []sha.Table{table, {}} {
						answer, e := Answer(c, s, Query{kind, a, b, wrong.Key[:b&63]})
						if e != api.OK && answer != "" {
							t.Errorf("%d, %d, %d: %q, %v", kind, a, b, answer, e)
						}
					}
				}
			}
		}
	}
}

// FuzzScript reads a script off bytes, and asks what else they tell.
func FuzzScript(f *testing.F) {
	f.Add([]byte{}, 0, 0, 0, "")
	f.Add([]byte{0, 1, 255, 2, 3, 255}, 1, 0, 1, "")
	f.Add([]byte{9, 9, 255, 7, 0, 1, 255, 3, 8, 9}, 2, 1, 2, "")
	f.Add([]byte{1, 2, 3, 4, 5, 255, 6, 7, 255}, 3, 2, 0, "key 1")
	f.Fuzz(func(t *testing.T, b []byte, kind, first, second int, key string) {
		w := walk{t: t}
		seq := 0
		for _, x := range b {
			if x == 255 && len(w.x.heads) < 6 {
				w.cut(seq)
			} else if len(w.x.l) < 40 {
				seq += 1 + int(x)
				w.ask(request(len(w.x.l)%4, seq))
			}
		}
		w.look(Query{kind, first, second, key})
		w.look(Query{kind & 3, first & 7, second & 7, key})
	})
}

func BenchmarkAnswer(b *testing.B) {
	w := &walk{t: b}
	w.fill(40)
	w.cut(1)
	w.fill(24)
	w.cut(2)
	for kind := range 4 {
		b.Run(strconv.Itoa(kind), func(b *testing.B) {
			for b.Loop() {
				Answer(table, w.s, Query{kind, 1, 2, "key 1"})
			}
		})
	}
}
