package state

import (
	"encoding/hex"
	"maps"
	"math"
	"math/rand/v2"
	"slices"
	"strconv"
	"strings"
	"testing"

	"annalist/api"
	"annalist/merkle"
	"annalist/sha"
	"annalist/smt"
	"annalist/wire"
)

var table = sha.Make()

// The oracle says what the chapter's words say, of layers 1, 2, 4 and 5 alone: nothing of this package is in it but its types.
// It keeps no state, but what was done: the requests that were taken, and the times at which a head was cut. All that must be
// is reckoned of that again, whenever it is asked for.

// event is a request that was taken, or a head that was cut.
type event struct {
	head bool
	r    api.Request
	now  int
}

type history []event

// requestsWant is the log.
func (l history) requestsWant() []api.Request {
	var made []api.Request
	for _, x := range l {
		if !x.head {
			made = append(made, x.r)
		}
	}
	return made
}

// headsCut is how many heads were cut.
func (l history) headsCut() int {
	return len(l) - len(l.requestsWant())
}

// lastWant is what is known of a client: from the end on, the first request of its, and how many of its there are.
func (l history) lastWant(client int) Last {
	var last Last
	for i := len(l) - 1; i >= 0; i-- {
		if l[i].head || l[i].r.Client != client {
			continue
		}
		if last.Count++; last.Count == 1 {
			ahead := l[:i]
			last.Seq = l[i].r.Seq
			last.Reply = api.Reply{Err: api.OK, Index: len(ahead.requestsWant()), Head: ahead.headsCut() + 1}
		}
	}
	return last
}

// mapWant is the map behind requests: from the end on, each key's first value.
func mapWant(l []api.Request) smt.Map {
	m := smt.Map{}
	for i := len(l) - 1; i >= 0; i-- {
		if _, there := m[l[i].Key]; l[i].Key != "" && !there {
			m[l[i].Key] = l[i].Value
		}
	}
	return m
}

func leavesWant(l []api.Request) []api.Hash {
	made := make([]api.Hash, len(l))
	for i, r := range l {
		made[i] = merkle.Leaf(table, wire.Request(r))
	}
	return made
}

// headWant is the head that was cut last, if that was done last. Of a time only the greatest that was ever told is seen.
func (l history) headWant() api.Head {
	time := 0
	for _, x := range l {
		if x.head && x.now > time {
			time = x.now
		}
	}
	log := l.requestsWant()
	return api.Head{
		Seq: l.headsCut(), Size: len(log), Time: time,
		Root: merkle.Root(table, leavesWant(log)), Map: smt.Root(table, mapWant(log)),
	}
}

// applied answers what was done once r is asked, and what r must be answered.
func (l history) applied(r api.Request) (history, api.Reply) {
	if !wire.Right(r) {
		return l, api.Reply{Err: api.ErrArg}
	}
	last := l.lastWant(r.Client)
	if last.Count > 0 && r.Seq == last.Seq {
		return l, last.Reply
	}
	if last.Count > 0 && r.Seq < last.Seq {
		return l, api.Reply{Err: api.ErrOld}
	}
	if last.Count == 20 {
		return l, api.Reply{Err: api.ErrQuota}
	}
	if len(l.requestsWant()) == 64 {
		return l, api.Reply{Err: api.ErrFull}
	}
	made := append(slices.Clone(l), event{r: r})
	return made, made.lastWant(r.Client).Reply
}

// cut answers what was done once a head is asked for, and whether there must be one more: if what was done last is a request.
func (l history) cut(now int) (history, bool) {
	if len(l) == 0 || l[len(l)-1].head {
		return l, false
	}
	return append(slices.Clone(l), event{head: true, now: now}), true
}

// same tells whether two states are one.
func same(a, b State) bool {
	return slices.Equal(a.Requests, b.Requests) && a.Clients == b.Clients && slices.Equal(a.Heads, b.Heads)
}

// kept answers a copy of the state that no call has seen.
func kept(s State) State {
	var made State
	made.Requests = append(made.Requests, s.Requests...)
	made.Clients = s.Clients
	made.Heads = append(made.Heads, s.Heads...)
	return made
}

// walk is a state, what was done for it, and the heads that there must be: these only are kept, since they take long to reckon.
type walk struct {
	t     *testing.T
	s     State
	done  history
	heads []api.Head
}

// ask lets r be applied, and looks at all that there must be behind it, and that what was handed in stays.
func (w *walk) ask(r api.Request) api.Reply {
	w.t.Helper()
	before := kept(w.s)
	next, reply := w.s.Apply(r)
	done, want := w.done.applied(r)
	if reply != want {
		w.t.Errorf("behind %d requests, %v: %v, want %v", len(before.Requests), r, reply, want)
	}
	w.goOn(before, next, done)
	return reply
}

// cut asks for a head, and looks likewise.
func (w *walk) cut(now int) bool {
	w.t.Helper()
	before := kept(w.s)
	next, ok := w.s.Cut(table, now)
	done, want := w.done.cut(now)
	if ok != want {
		w.t.Errorf("behind %d requests, at %d: %v, want %v", len(before.Requests), now, ok, want)
	}
	if want {
		w.heads = append(slices.Clone(w.heads), done.headWant())
	}
	w.goOn(before, next, done)
	return ok
}

// goOn goes on with the next state, if it is what was done.
func (w *walk) goOn(before, next State, done history) {
	w.t.Helper()
	if !same(w.s, before) {
		w.t.Fatalf("what was handed in is otherwise: %v, was %v", w.s, before)
	}
	w.s, w.done = next, done
	w.look()
}

// look holds the whole state against what was done.
func (w *walk) look() {
	w.t.Helper()
	if want := w.done.requestsWant(); !slices.Equal(w.s.Requests, want) {
		w.t.Fatalf("requests %v, want %v", w.s.Requests, want)
	}
	for client := range 4 {
		if last, want := w.s.Clients[client], w.done.lastWant(client); last != want {
			w.t.Fatalf("client %d: %v, want %v", client, last, want)
		}
	}
	if !slices.Equal(w.s.Heads, w.heads) {
		w.t.Fatalf("heads %v, want %v", w.s.Heads, w.heads)
	}
}

// request answers an ordinary one.
func request(client, seq int) api.Request {
	n := 7*client + 3*seq
	r := api.Request{Client: client, Seq: seq, Leaf: "leaf " + strconv.Itoa(client) + " " + strconv.Itoa(seq)}
	if n%5 != 0 {
		r.Key = "key " + strconv.Itoa(n%11)
	}
	if n%5 > 1 {
		r.Value = "value " + strconv.Itoa(n)
	}
	return r
}

// fill lets the four clients in turn ask for so many requests in all, their Seqs from 1 on.
func (w *walk) fill(n int) {
	w.t.Helper()
	for i := range n {
		if reply := w.ask(request(i%4, i/4+1)); reply.Err != api.OK || reply.Index != i {
			w.t.Fatalf("request %d: %v", i, reply)
		}
	}
}

// The tests of P11.1 to P11.3: scripts of requests and cuts.

func TestEmptyState(t *testing.T) {
	w := walk{t: t}
	w.look()
	for _, now := range []int{math.MinInt, -1, 0, 1, 7, math.MaxInt32, math.MaxInt} {
		if w.cut(now) {
			t.Errorf("a head of nothing, at %d", now)
		}
	}
	for _, n := range []int{math.MinInt, -1, 0, 1, 2, 64, math.MaxInt} {
		if l, m := w.s.Leaves(table, n), w.s.Map(n); len(l) != 0 || m == nil || len(m) != 0 {
			t.Errorf("of %d: %d leaves, map %v", n, len(l), m)
		}
		if h, ok := w.s.Head(n); h != (api.Head{}) || ok {
			t.Errorf("head %d: %v, %v", n, h, ok)
		}
	}
}

// TestExample is the chapter's.
func TestExample(t *testing.T) {
	w := walk{t: t}
	r := api.Request{Client: 0, Seq: 1, Leaf: "a"}
	first, second := w.ask(r), w.ask(r)
	if want := (api.Reply{Head: 1}); first != want || second != want || len(w.s.Requests) != 1 || len(w.s.Leaves(table, 2)) != 1 {
		t.Errorf("%v, %v, %v", first, second, w.s.Requests)
	}
}

func TestEachClientsFirstRequest(t *testing.T) {
	for client := range 4 {
		for _, seq := range []int{1, 2, 20, 1000, math.MaxInt32} {
			w := walk{t: t}
			r := request(client, seq)
			if reply := w.ask(r); reply != (api.Reply{Head: 1}) {
				t.Errorf("client %d, %d: %v", client, seq, reply)
			}
			want := State{Requests: []api.Request{r}}
			want.Clients[client] = Last{Seq: seq, Count: 1, Reply: api.Reply{Head: 1}}
			if !same(w.s, want) {
				t.Errorf("client %d, %d: %v", client, seq, w.s)
			}
			if !w.cut(5) || w.s.Heads[0].Size != 1 || w.s.Heads[0].Root != merkle.Leaf(table, wire.Request(r)) {
				t.Errorf("client %d, %d: %v", client, seq, w.s.Heads)
			}
		}
	}
}

// TestReplies writes out a script's replies by hand, of all four clients, with cuts between them.
func TestReplies(t *testing.T) {
	w := walk{t: t}
	const cut = -1
	for i, c := range []struct {
		client, seq int // of the client -1 a head is cut, at the time seq
		want        api.Reply
	}{
		{1, 2, api.Reply{Index: 0, Head: 1}},
		{1, 2, api.Reply{Index: 0, Head: 1}},
		{1, 1, api.Reply{Err: api.ErrOld}},
		{0, 1, api.Reply{Index: 1, Head: 1}},
		{cut, 5, api.Reply{}},
		{1, 2, api.Reply{Index: 0, Head: 1}},
		{0, 1, api.Reply{Index: 1, Head: 1}},
		{3, 9, api.Reply{Index: 2, Head: 2}},
		{cut, 4, api.Reply{}},
		{2, 1, api.Reply{Index: 3, Head: 3}},
		{2, 2, api.Reply{Index: 4, Head: 3}},
		{2, 1, api.Reply{Err: api.ErrOld}},
		{3, 9, api.Reply{Index: 2, Head: 2}},
		{4, 1, api.Reply{Err: api.ErrArg}},
		{cut, 9, api.Reply{}},
		{1, 3, api.Reply{Index: 5, Head: 4}},
		{1, 2, api.Reply{Err: api.ErrOld}},
		{0, 1, api.Reply{Index: 1, Head: 1}},
		{3, 8, api.Reply{Err: api.ErrOld}},
		{3, math.MaxInt32, api.Reply{Index: 6, Head: 4}},
		{3, math.MaxInt32 - 1, api.Reply{Err: api.ErrOld}},
		{3, math.MaxInt32 + 1, api.Reply{Err: api.ErrArg}},
		{3, math.MaxInt32, api.Reply{Index: 6, Head: 4}},
	} {
		if c.client == cut {
			if !w.cut(c.seq) {
				t.Errorf("%d: no head", i)
			}
		} else if reply := w.ask(request(c.client, c.seq)); reply != c.want {
			t.Errorf("%d: %v, want %v", i, reply, c.want)
		}
	}
	var sizes, times []int
	for _, h := range w.s.Heads {
		sizes, times = append(sizes, h.Size), append(times, h.Time)
	}
	if !slices.Equal(sizes, []int{2, 3, 5}) || !slices.Equal(times, []int{5, 5, 9}) {
		t.Errorf("sizes %v, times %v", sizes, times)
	}
}

// TestHeadsReckonedElsewhere has heads of two scripts, as another program reckoned them of the words alone.
func TestHeadsReckonedElsewhere(t *testing.T) {
	few := []api.Request{
		{Client: 1, Seq: 2, Leaf: "a", Key: "k", Value: "v"},
		{Client: 0, Seq: 1, Leaf: "b", Key: "k"},
		{Client: 3, Seq: math.MaxInt32, Leaf: "\x00\xff"},
		{Client: 2, Seq: 7, Leaf: strings.Repeat("l", 200), Key: strings.Repeat("k", 50), Value: strings.Repeat("v", 100)},
		{Client: 1, Seq: 3, Leaf: "a"},
		{Client: 0, Seq: 9, Leaf: "c", Key: "j", Value: "w"},
		{Client: 2, Seq: 8, Leaf: "d", Key: "k", Value: "again"},
	}
	var many []api.Request
	for i := range 64 {
		r := api.Request{Client: i % 4, Seq: 1 + i/4, Leaf: "leaf " + strconv.Itoa(i)}
		if i%5 != 4 {
			r.Key = "key " + strconv.Itoa(i%23)
		}
		if i%5 != 4 && i%7 != 3 {
			r.Value = "value " + strconv.Itoa(i)
		}
		many = append(many, r)
	}
	for i, c := range []struct {
		l            []api.Request
		root, behind string
	}{
		{few[:1], "9eec67d0ddebf2e0d757a52d054e6f2c735164fd7b0f86d00e3cc3c7c0e686b4", "f6739954b9cbe85b231770a9a6de8030d545d887c356456a32917b117da980ee"},
		{few[:2], "9ff878245bb2e4d8bb30c84dd27d245531b9339681395159486ea488608f2df7", "7206898cb10bc72ddb2f898c1e19873ad711bbbe03d4fc785ec65ec7fce7d212"},
		{few[:3], "3ad3259114ea00d3fa7174f38243d4c521fa526ca0772586e4c8cc79975f23b0", "7206898cb10bc72ddb2f898c1e19873ad711bbbe03d4fc785ec65ec7fce7d212"},
		{few[:4], "9d2e46b0ccbced3edcddcf64d81f5e3e33c1ca1626c65abf501625a40339a516", "8ca222ac05fb2b53cfa18e28122409911d5672d5f6f708691f0da2dc8279f466"},
		{few[:5], "09f04677e05cfd0505edbbe2d2979933787f985b32d64e62e505edb6f5d55375", "8ca222ac05fb2b53cfa18e28122409911d5672d5f6f708691f0da2dc8279f466"},
		{few[:6], "84636ab36c04d816206fece80bbef3675a2fb6698b31fd300ea74cbe58161c6d", "397f8eff1921abaff037a61bceae9a23641a5002195380ea509e2dc237977fa0"},
		{few[:7], "3ed421e0655e367f741dbe6e5f5ed75b794271a202ad7cefd3a2ceaf0a807526", "aeabd83a54d35df488ad3a6a564bab3d5dd3f3fc765a967ee8db81e94c7210b2"},
		{many[:1], "893ec1a77e50fe7bac5e55c9f3823e79ae62e27815c2a18e744126a0da48b32e", "d7c53fb4350813d1a114545b95c7d6f4330fd190946948340304e139b2f9486e"},
		{many[:8], "b3a09af3b4adbdbb92979db956741d35890e1a7f136358db4d24bfa41d33594c", "85639f0a06202b97b387a29b76a58355060924802dd7b344f9aa575a83591247"},
		{many[:33], "dbe22c8bf7c265ee6965e5a3b07a28e021eb9f0fe76556ad052ba4b22e6aa771", "794aece2365d5b796fb6d06aa7794d0ee968a7915f3f8fbc53ccb71e2e673fbb"},
		{many[:63], "c917ca63f06c9c652ba2802d49526ed2043a957b4d3520c1d809e07cfbfed02c", "b7c49341768049ba6535c7b06de568162cc44ac9c52e50f8424ebc89e36f8404"},
		{many[:64], "af4f2689ac74c8add224d44e9085cf353b67ebc0acacc6812cb68581732b7031", "7d67a42e2c2308813fcaacde0833a1d27511f084639b34a3e344509ccf6a2791"},
	} {
		w := walk{t: t}
		for _, r := range c.l {
			w.ask(r)
		}
		if !w.cut(12) {
			t.Fatalf("%d: no head", i)
		}
		h := w.s.Heads[0]
		if root, m := hex.EncodeToString([]byte(h.Root)), hex.EncodeToString([]byte(h.Map)); root != c.root || m != c.behind {
			t.Errorf("%d: %s, %s", i, root, m)
		}
		if h.Seq != 1 || h.Size != len(c.l) || h.Time != 12 {
			t.Errorf("%d: %v", i, h)
		}
	}
}

// TestHeadBehindEachRequest cuts as often as can be: heads of all sizes.
func TestHeadBehindEachRequest(t *testing.T) {
	t.Parallel()
	w := walk{t: t}
	for i := range 64 {
		if reply := w.ask(request(i%4, i/4+1)); reply != (api.Reply{Index: i, Head: i + 1}) {
			t.Errorf("request %d: %v", i, reply)
		}
		if !w.cut(100-i) || w.cut(200) || w.cut(-1) {
			t.Errorf("head %d", i)
		}
		if h := w.s.Heads[i]; h.Seq != i+1 || h.Size != i+1 || h.Time != 100 {
			t.Errorf("head %d: %v", i, h)
		}
	}
	for i := range 64 {
		if reply := w.ask(request(i%4, i/4+1)); i >= 60 && reply != (api.Reply{Index: i, Head: i + 1}) || i < 60 && reply != (api.Reply{Err: api.ErrOld}) {
			t.Errorf("request %d again: %v", i, reply)
		}
	}
}

// anyRequest answers one that is right most times, of few Seqs, keys and values, so that much comes twice.
func anyRequest(random *rand.Rand, reach int) api.Request {
	r := api.Request{Client: random.IntN(4), Seq: 1 + random.IntN(reach), Leaf: "leaf " + strconv.Itoa(random.IntN(9))}
	if random.IntN(4) > 0 {
		r.Key = "k" + strconv.Itoa(random.IntN(6))
		r.Value = strings.Repeat("v", random.IntN(3))
	}
	switch random.IntN(20) {
	case 0:
		r.Client = []int{-1, 4, 5, math.MinInt, math.MaxInt}[random.IntN(5)]
	case 1:
		r.Seq = []int{0, -1, math.MaxInt32 + 1, math.MinInt, math.MaxInt}[random.IntN(5)]
	case 2:
		r.Leaf = strings.Repeat("l", 201*random.IntN(2))
	case 3:
		r.Key, r.Value = "", "value"
	}
	return r
}

func TestManyScripts(t *testing.T) {
	t.Parallel()
	for i := range 60 {
		random := rand.New(rand.NewPCG(11, uint64(i)))
		w := walk{t: t}
		seq := [4]int{}
		for range 40 + random.IntN(120) {
			switch random.IntN(12) {
			case 0:
				w.cut(random.IntN(50) - 5)
			case 1, 2, 3:
				w.ask(anyRequest(random, 30))
			case 4:
				if n := len(w.s.Requests); n > 0 {
					w.ask(w.s.Requests[random.IntN(n)])
				}
			default:
				client := random.IntN(1 + i%4)
				seq[client] = max(seq[client], w.s.Clients[client].Seq) + 1 + random.IntN(2)
				w.ask(request(client, seq[client]))
			}
		}
		lookAtHeads(t, w.s)
	}
}

// lookAtHeads asks of a state what follows: P11.3, and that heads are of what Leaves and Map tell.
func lookAtHeads(t *testing.T, s State) {
	t.Helper()
	var last api.Head
	for i, h := range s.Heads {
		if h.Seq != i+1 || h.Size <= last.Size || h.Size > len(s.Requests) || h.Time < last.Time || h.Time < 0 {
			t.Errorf("%v behind %v", h, last)
		}
		if h.Root != merkle.Root(table, s.Leaves(table, h.Size)) || h.Map != smt.Root(table, s.Map(h.Size)) {
			t.Errorf("the head %d has other roots", h.Seq)
		}
		if got, ok := s.Head(h.Seq); got != h || !ok {
			t.Errorf("the head %d: %v, %v", h.Seq, got, ok)
		}
		last = h
	}
}

// The tests of P11.1: requests that aren't taken.

// wrongRequests answers such as break each of layer 2's limits, by as little as can be, or by much.
func wrongRequests() map[string]api.Request {
	right := api.Request{Client: 1, Seq: 1000, Leaf: "leaf", Key: "key", Value: "value"}
	l := map[string]api.Request{"none": {}}
	for _, n := range []int{-1, -2, 4, 5, 256, 1 << 32, 1<<32 + 1, math.MinInt, math.MaxInt} {
		r := right
		r.Client = n
		l["client "+strconv.Itoa(n)] = r
	}
	for _, n := range []int{0, -1, math.MaxInt32 + 1, 1 << 32, 1<<32 + 1000, math.MinInt, math.MaxInt} {
		r := right
		r.Seq = n
		l["seq "+strconv.Itoa(n)] = r
	}
	for _, n := range []int{0, 201, 202, 70000} {
		r := right
		r.Leaf = strings.Repeat("l", n)
		l["leaf of "+strconv.Itoa(n)] = r
	}
	for _, n := range []int{51, 52, 300} {
		r := right
		r.Key = strings.Repeat("k", n)
		l["key of "+strconv.Itoa(n)] = r
	}
	for _, n := range []int{101, 102, 70000} {
		r := right
		r.Value = strings.Repeat("v", n)
		l["value of "+strconv.Itoa(n)] = r
	}
	r := right
	r.Key = ""
	l["value without a key"] = r
	return l
}

// places answers walks that have come to where something is about to change.
func places(t *testing.T) map[string]*walk {
	l := map[string]*walk{}
	for _, n := range []int{0, 1, 5, 63, 64} {
		w := &walk{t: t}
		w.fill(n)
		l[strconv.Itoa(n)] = w
		behind := *w
		behind.cut(9)
		l[strconv.Itoa(n)+", and a head"] = &behind
	}
	spent := &walk{t: t}
	for i := range 20 {
		spent.ask(request(1, i+1))
	}
	l["a client that has had its share"] = spent
	return l
}

func TestRequestsThatAreNotRight(t *testing.T) {
	for where, w := range places(t) {
		for what, r := range wrongRequests() {
			if reply := w.ask(r); reply != (api.Reply{Err: api.ErrArg}) {
				t.Errorf("%s, behind %s: %v", what, where, reply)
			}
		}
	}
}

// TestRequestsThatAreJustRight has each limit as it may just be.
func TestRequestsThatAreJustRight(t *testing.T) {
	leaf, key, value := strings.Repeat("l", 200), strings.Repeat("k", 50), strings.Repeat("v", 100)
	w := walk{t: t}
	for i, r := range []api.Request{
		{Client: 0, Seq: 1, Leaf: "l"},
		{Client: 3, Seq: 1, Leaf: "\x00"},
		{Client: 0, Seq: 2, Leaf: leaf},
		{Client: 0, Seq: 3, Leaf: leaf, Key: key},
		{Client: 0, Seq: 4, Leaf: leaf, Key: key, Value: value},
		{Client: 0, Seq: 5, Leaf: "l", Key: "\x00", Value: "\xff"},
		{Client: 3, Seq: math.MaxInt32, Leaf: leaf, Key: key, Value: "v"},
		{Client: 2, Seq: math.MaxInt32, Leaf: "l"},
	} {
		if reply := w.ask(r); reply != (api.Reply{Index: i, Head: i + 1}) {
			t.Errorf("%d: %v", i, reply)
		}
		w.cut(i)
	}
}

func TestSeqsBelowTheLast(t *testing.T) {
	for _, last := range []int{2, 3, 7, 1000, math.MaxInt32} {
		w := walk{t: t}
		w.ask(request(1, 1))
		w.ask(request(2, last))
		for _, seq := range []int{1, last / 2, last - 1} {
			if reply := w.ask(request(2, seq)); reply != (api.Reply{Err: api.ErrOld}) {
				t.Errorf("%d behind %d: %v", seq, last, reply)
			}
		}
		for _, client := range []int{0, 3} { // another one's Seqs are its own
			if reply := w.ask(request(client, 1)); reply.Err != api.OK {
				t.Errorf("client %d: %v", client, reply)
			}
		}
		if reply := w.ask(request(2, last)); reply != (api.Reply{Index: 1, Head: 1}) {
			t.Errorf("%d again: %v", last, reply)
		}
	}
}

func TestSeqsMayLeap(t *testing.T) {
	w := walk{t: t}
	for i, seq := range []int{5, 6, 8, 100, 101, math.MaxInt32 - 1, math.MaxInt32} {
		if reply := w.ask(request(3, seq)); reply != (api.Reply{Index: i, Head: 1}) {
			t.Errorf("%d: %v", seq, reply)
		}
	}
}

func TestAClientsShare(t *testing.T) {
	for client := range 4 {
		w := walk{t: t}
		other := (client + 1) % 4
		w.ask(request(other, 1))
		for i := range 20 {
			if reply := w.ask(request(client, 2*i+2)); reply != (api.Reply{Index: i + 1, Head: 1}) || w.s.Clients[client].Count != i+1 {
				t.Errorf("client %d, request %d: %v", client, i+1, reply)
			}
		}
		w.cut(3)
		for _, seq := range []int{41, 42, 1000, math.MaxInt32, 41} { // none of these becomes the last one
			if reply := w.ask(request(client, seq)); reply != (api.Reply{Err: api.ErrQuota}) {
				t.Errorf("client %d, %d: %v", client, seq, reply)
			}
		}
		if reply := w.ask(request(client, 40)); reply != (api.Reply{Index: 20, Head: 1}) {
			t.Errorf("client %d, the last one again: %v", client, reply)
		}
		for _, seq := range []int{1, 38, 39} {
			if reply := w.ask(request(client, seq)); reply != (api.Reply{Err: api.ErrOld}) {
				t.Errorf("client %d, %d: %v", client, seq, reply)
			}
		}
		if w.cut(9) {
			t.Errorf("client %d: a head of what wasn't taken", client)
		}
		if reply := w.ask(request(other, 2)); reply != (api.Reply{Index: 21, Head: 2}) {
			t.Errorf("client %d: %v", other, reply)
		}
	}
}

// full answers a walk behind 64 requests: 20 of the clients 0 and 1, 19 of the client 2, 5 of the client 3.
func full(t *testing.T) *walk {
	t.Helper()
	w := &walk{t: t}
	for client, many := range []int{20, 20, 19, 5} {
		for i := range many {
			w.ask(request(client, i+2))
		}
	}
	if len(w.s.Requests) != 64 {
		t.Fatalf("%d requests", len(w.s.Requests))
	}
	return w
}

func TestAFullLog(t *testing.T) {
	w := full(t)
	for range 2 {
		for i, c := range []struct {
			client, seq int
			want        api.Reply
		}{
			{2, 21, api.Reply{Err: api.ErrFull}},
			{2, 22, api.Reply{Err: api.ErrFull}},
			{2, 21, api.Reply{Err: api.ErrFull}},
			{3, 7, api.Reply{Err: api.ErrFull}},
			{3, math.MaxInt32, api.Reply{Err: api.ErrFull}},
			{0, 22, api.Reply{Err: api.ErrQuota}},
			{1, math.MaxInt32, api.Reply{Err: api.ErrQuota}},
			{0, 20, api.Reply{Err: api.ErrOld}},
			{2, 19, api.Reply{Err: api.ErrOld}},
			{3, 1, api.Reply{Err: api.ErrOld}},
			{4, 1, api.Reply{Err: api.ErrArg}},
			{2, 0, api.Reply{Err: api.ErrArg}},
			{0, 21, api.Reply{Index: 19, Head: 1}},
			{1, 21, api.Reply{Index: 39, Head: 1}},
			{2, 20, api.Reply{Index: 58, Head: 1}},
			{3, 6, api.Reply{Index: 63, Head: 1}},
		} {
			if reply := w.ask(request(c.client, c.seq)); reply != c.want {
				t.Errorf("%d: %v, want %v", i, reply, c.want)
			}
		}
		w.cut(7) // and all again behind a head
	}
	if len(w.s.Heads) != 1 || w.s.Heads[0].Size != 64 {
		t.Errorf("heads %v", w.s.Heads)
	}
}

// TestAFullLogOfThreeClients: of the fourth one nothing was ever taken, so that none of its is the last one, or old.
func TestAFullLogOfThreeClients(t *testing.T) {
	w := walk{t: t}
	for client := range 3 {
		for i := range 20 {
			w.ask(request(client, i+1))
		}
	}
	for i := range 4 {
		if reply := w.ask(request(3, i+5)); reply != (api.Reply{Index: 60 + i, Head: 1}) {
			t.Errorf("%d: %v", i, reply)
		}
	}
	if reply := w.ask(request(3, 9)); reply != (api.Reply{Err: api.ErrFull}) {
		t.Errorf("the 65th: %v", reply)
	}
}

// The tests of P11.1 and P11.3: requests that are asked again.

func TestAskedAgain(t *testing.T) {
	w := walk{t: t}
	for i := range 12 {
		r := request(i%3, i/3+1)
		first := w.ask(r)
		for j := range 3 {
			before := kept(w.s)
			if again := w.ask(r); again != first {
				t.Errorf("%v: %v, want %v", r, again, first)
			}
			if !same(w.s, before) || len(w.s.Leaves(table, 64)) != i+1 {
				t.Errorf("%v: another state", r)
			}
			if j == 1 {
				w.cut(i) // the answer stays what it was, though a head was cut
			}
		}
	}
}

// TestAskedAgainWithOtherContents: client and Seq alone tell which request it is.
func TestAskedAgainWithOtherContents(t *testing.T) {
	first := api.Request{Client: 2, Seq: 4, Leaf: "leaf", Key: "key", Value: "value"}
	for i, other := range []api.Request{
		{Client: 2, Seq: 4, Leaf: "other", Key: "key", Value: "value"},
		{Client: 2, Seq: 4, Leaf: "leaf", Key: "other", Value: "value"},
		{Client: 2, Seq: 4, Leaf: "leaf", Key: "key", Value: "other"},
		{Client: 2, Seq: 4, Leaf: "leaf", Key: "key"},
		{Client: 2, Seq: 4, Leaf: "leaf"},
	} {
		w := walk{t: t}
		w.ask(request(1, 1))
		want := w.ask(first)
		w.cut(1)
		before := kept(w.s)
		if reply := w.ask(other); reply != want || reply != (api.Reply{Index: 1, Head: 1}) {
			t.Errorf("%d: %v", i, reply)
		}
		if !same(w.s, before) || w.s.Requests[1] != first || w.s.Map(2)["key"] != "value" || w.cut(2) {
			t.Errorf("%d: another state", i)
		}
	}
	w := walk{t: t}
	w.ask(first)
	for what, r := range wrongRequests() {
		if r.Client, r.Seq = 2, 4; wire.Right(r) {
			continue
		}
		if reply := w.ask(r); reply != (api.Reply{Err: api.ErrArg}) {
			t.Errorf("%s, of the last one's Seq: %v", what, reply)
		}
	}
}

// TestSameContentsAreTakenAgain: of another Seq, or client, they are another request.
func TestSameContentsAreTakenAgain(t *testing.T) {
	w := walk{t: t}
	for i := range 8 {
		if reply := w.ask(api.Request{Client: i % 4, Seq: i/4 + 1, Leaf: "leaf", Key: "key", Value: "value"}); reply != (api.Reply{Index: i, Head: 1}) {
			t.Errorf("%d: %v", i, reply)
		}
	}
}

// The tests of P11.2: times.

func TestTimes(t *testing.T) {
	for _, c := range []struct{ now, want []int }{
		{[]int{0, 0, 0}, []int{0, 0, 0}},
		{[]int{7, 7, 8}, []int{7, 7, 8}},
		{[]int{7, 3, 7, 6, 8, 0}, []int{7, 7, 7, 7, 8, 8}},
		{[]int{-1, 0, -1, 1, -5, 2}, []int{0, 0, 0, 1, 1, 2}},
		{[]int{-5, -3, -9}, []int{0, 0, 0}},
		{[]int{math.MinInt, 0, math.MinInt, 1, math.MinInt}, []int{0, 0, 0, 1, 1}},
		{[]int{math.MaxInt32, math.MaxInt32 - 1, math.MaxInt32 + 1, 0}, []int{math.MaxInt32, math.MaxInt32, math.MaxInt32 + 1, math.MaxInt32 + 1}},
		{[]int{5, math.MaxInt, math.MaxInt - 1, math.MinInt, math.MaxInt}, []int{5, math.MaxInt, math.MaxInt, math.MaxInt, math.MaxInt}},
	} {
		w := walk{t: t}
		for i, now := range c.now {
			w.ask(request(i%4, i+1))
			if !w.cut(now) {
				t.Errorf("no head at %d", now)
			}
			if h := w.s.Heads[i]; h.Time != c.want[i] {
				t.Errorf("at %v, head %d: %d, want %d", c.now, i, h.Time, c.want[i])
			}
		}
	}
}

// The tests of P11.2: whether there is a head more.

func TestNoHeadWithoutARequest(t *testing.T) {
	nows := []int{math.MinInt, -1, 0, 1, 5, 6, 7, math.MaxInt32, math.MaxInt}
	for where, w := range places(t) {
		w.cut(6)
		for _, now := range nows {
			if w.cut(now) {
				t.Errorf("behind %s: a head more, at %d", where, now)
			}
		}
		if n := len(w.s.Requests); n > 0 { // neither is what isn't taken a reason
			w.ask(w.s.Requests[n-1])
			w.ask(w.s.Requests[0])
			w.ask(api.Request{})
			if w.cut(7) {
				t.Errorf("behind %s: a head more", where)
			}
		}
	}
}

func TestHeadsOfSeveralRequests(t *testing.T) {
	w := walk{t: t}
	sizes := []int{1, 2, 4, 5, 8, 13, 31, 32, 33, 64}
	for i := range 64 {
		w.ask(request(i%4, i/4+1))
		if slices.Contains(sizes, i+1) && !w.cut(i/3) {
			t.Errorf("no head of %d", i+1)
		}
	}
	if len(w.s.Heads) != len(sizes) {
		t.Fatalf("%d heads", len(w.s.Heads))
	}
	for i, h := range w.s.Heads {
		if h.Seq != i+1 || h.Size != sizes[i] {
			t.Errorf("%d: %v", i, h)
		}
	}
	lookAtHeads(t, w.s)
}

// The tests of P11.2: Leaves, Map, Head.

func TestLeavesAndMapOfEachNumber(t *testing.T) {
	for where, w := range places(t) {
		log := w.done.requestsWant()
		numbers := []int{math.MinInt, -65, -64, -2, -1, 65, 66, 128, 1 << 32, 1<<32 + 1, math.MaxInt}
		for n := range 65 {
			numbers = append(numbers, n)
		}
		for _, n := range numbers {
			near := log
			if n < 0 {
				near = nil
			} else if n < len(log) {
				near = log[:n]
			}
			if l := w.s.Leaves(table, n); !slices.Equal(l, leavesWant(near)) {
				t.Errorf("behind %s, leaves of %d: %x", where, n, l)
			}
			if m := w.s.Map(n); m == nil || !maps.Equal(m, mapWant(near)) {
				t.Errorf("behind %s, map of %d: %v", where, n, m)
			}
		}
	}
}

// TestLeavesReckonedOfShaAlone writes a leaf's bytes out.
func TestLeavesReckonedOfShaAlone(t *testing.T) {
	w := walk{t: t}
	w.ask(api.Request{Client: 1, Seq: 258, Leaf: "a", Key: "k", Value: "v"})
	w.ask(api.Request{Client: 3, Seq: 1, Leaf: "bc"})
	want := []api.Hash{
		sha.Sum(table, "\x00R\x00\x00\x00\x01\x00\x00\x01\x02\x00\x00\x00\x01a\x00\x00\x00\x01k\x00\x00\x00\x01v"),
		sha.Sum(table, "\x00R\x00\x00\x00\x03\x00\x00\x00\x01\x00\x00\x00\x02bc\x00\x00\x00\x00\x00\x00\x00\x00"),
	}
	for n := range 4 {
		if l := w.s.Leaves(table, n); !slices.Equal(l, want[:min(n, 2)]) {
			t.Errorf("of %d: %x", n, l)
		}
	}
}

// TestKeysThatArePutAgain has a key put with another value, with an empty one, and beside requests without a key.
func TestKeysThatArePutAgain(t *testing.T) {
	w := walk{t: t}
	type put struct{ key, value string }
	wants := []smt.Map{{}}
	for i, p := range []put{{"k", "v"}, {"k", "w"}, {"j", ""}, {"", ""}, {"k", ""}, {"", ""}, {"j", "x"}, {"k", "v"}, {"k", "v"}, {"j", ""}, {"K", "z"}, {"k\x00", "y"}} {
		w.ask(api.Request{Client: i % 4, Seq: i + 1, Leaf: "leaf", Key: p.key, Value: p.value})
		w.cut(i)
		m := maps.Clone(wants[i])
		if p.key != "" {
			m[p.key] = p.value
		}
		wants = append(wants, m)
	}
	for n, want := range wants {
		if m := w.s.Map(n); !maps.Equal(m, want) {
			t.Errorf("behind %d: %v, want %v", n, m, want)
		}
		if n > 0 && w.s.Heads[n-1].Map != smt.Root(table, want) {
			t.Errorf("the head of %d has another map", n)
		}
	}
	if value, there := w.s.Map(5)["k"]; value != "" || !there {
		t.Errorf("%q, %v: a key with an empty value is there", value, there)
	}
	if _, there := w.s.Map(12)[""]; there {
		t.Error("no key is put where the request has none")
	}
	for _, pair := range [][2]int{{3, 4}, {5, 6}, {8, 9}} { // of maps that are the same the roots are
		if w.s.Heads[pair[0]-1].Map != w.s.Heads[pair[1]-1].Map || w.s.Heads[pair[0]-1].Root == w.s.Heads[pair[1]-1].Root {
			t.Errorf("the heads of %v", pair)
		}
	}
}

func TestHeadOfEachNumber(t *testing.T) {
	w := walk{t: t}
	for many := range 12 {
		for _, seq := range []int{math.MinInt, math.MinInt + 1, -13, -2, -1, 0, many + 1, many + 2, 64, 65, 1 << 32, 1<<32 + 1, math.MaxInt} {
			if h, ok := w.s.Head(seq); h != (api.Head{}) || ok {
				t.Errorf("of %d heads, %d: %v, %v", many, seq, h, ok)
			}
		}
		for i, want := range w.heads {
			if h, ok := w.s.Head(i + 1); h != want || !ok {
				t.Errorf("of %d heads, %d: %v, %v", many, i+1, h, ok)
			}
		}
		for i := range many%3 + 1 {
			w.ask(request(i, many+1))
		}
		w.cut(many)
	}
}

// The tests of P11.3: what is handed in stays.

// roomy answers the state in lists with spare room, and a function that tells whether that room is as it was.
func roomy(s State) (State, func() bool) {
	mark, markHead := api.Request{Leaf: "spare"}, api.Head{Seq: -1}
	requests := append(append(make([]api.Request, 0, len(s.Requests)+9), s.Requests...), mark, mark, mark)
	heads := append(append(make([]api.Head, 0, len(s.Heads)+9), s.Heads...), markHead, markHead, markHead)
	made := State{Requests: requests[:len(s.Requests)], Clients: s.Clients, Heads: heads[:len(s.Heads)]}
	return made, func() bool {
		for i := range 3 {
			if requests[len(s.Requests)+i] != mark || heads[len(s.Heads)+i] != markHead {
				return false
			}
		}
		return same(s, State{Requests: requests[:len(s.Requests)], Clients: s.Clients, Heads: heads[:len(s.Heads)]})
	}
}

// spoil changes all that a state has, and puts something into the spare room of its lists.
func spoil(s State) {
	for i := range s.Requests {
		s.Requests[i] = api.Request{Leaf: "spoilt"}
	}
	for i := range s.Heads {
		s.Heads[i] = api.Head{Seq: -7}
	}
	_ = append(s.Requests, api.Request{Leaf: "spoilt"})
	_ = append(s.Heads, api.Head{Seq: -7})
}

// calls answers one of each kind: taken, asked again, refused, cut, not cut.
func calls(s State) map[string]func(State) State {
	apply := func(r api.Request) func(State) State {
		return func(s State) State {
			next, _ := s.Apply(r)
			return next
		}
	}
	l := map[string]func(State) State{
		"not right": apply(api.Request{}),
		"client 4":  apply(request(4, 1)),
		"cut":       func(s State) State { next, _ := s.Cut(table, 70); return next },
		"cut twice": func(s State) State {
			next, _ := s.Cut(table, 70)
			next, _ = next.Cut(table, 80)
			return next
		},
	}
	for client, last := range s.Clients {
		l["next of "+strconv.Itoa(client)] = apply(request(client, last.Seq+1))
		l["again of "+strconv.Itoa(client)] = apply(request(client, last.Seq))
		l["old of "+strconv.Itoa(client)] = apply(request(client, last.Seq-1))
	}
	return l
}

func TestWhatIsHandedInStays(t *testing.T) {
	for where, w := range places(t) {
		for what, call := range calls(w.s) {
			s, stays := roomy(w.s)
			before := kept(w.s)
			next := call(s)
			if !stays() || !same(s, before) {
				t.Errorf("behind %s, %s: what was handed in is otherwise", where, what)
			}
			want := kept(next)
			spoil(next)
			if !stays() || !same(s, before) {
				t.Errorf("behind %s, %s: what is answered is no copy", where, what)
			}
			next = call(s)
			spoil(s)
			if !same(next, want) {
				t.Errorf("behind %s, %s: what was handed in is kept", where, what)
			}
		}
	}
}

// TestTwoCallsOfOneState makes each two calls of one state, goes on with the one, and looks at the other one.
func TestTwoCallsOfOneState(t *testing.T) {
	for where, w := range places(t) {
		list := calls(w.s)
		wants := map[string]State{}
		for what, call := range list {
			wants[what] = kept(call(kept(w.s)))
		}
		spare, _ := roomy(w.s)
		for _, origin := range []State{w.s, spare} {
			before := kept(origin)
			for a, first := range list {
				for b, second := range list {
					one, two := first(origin), second(origin)
					goOn(one)
					if !same(one, wants[a]) || !same(two, wants[b]) || !same(origin, before) {
						t.Errorf("behind %s, %s and %s hang on one another", where, a, b)
					}
				}
			}
		}
	}
}

// goOn lets several states come of s, each of the one ahead.
func goOn(s State) {
	for i := range 3 {
		for client := range 4 {
			s, _ = s.Apply(api.Request{Client: client, Seq: 5000 + i, Leaf: "gone on"})
		}
	}
	s.Heads = append(s.Heads, api.Head{Seq: 90})
	s.Requests = append(s.Requests, api.Request{Leaf: "gone on"})
}

// TestBranches goes from each state of a script, once it is at its end, another way.
func TestBranches(t *testing.T) {
	t.Parallel()
	w := walk{t: t}
	var stages []walk
	for i := range 30 {
		stages = append(stages, w)
		w.ask(request(i%4, i/4+1))
		if i%3 == 2 {
			stages = append(stages, w)
			w.cut(i)
		}
	}
	end := kept(w.s)
	for i := range stages {
		branch := stages[i]
		branch.look()
		for client := range 4 {
			branch.ask(api.Request{Client: client, Seq: 900, Leaf: "branch " + strconv.Itoa(i), Key: "branch"})
		}
		branch.cut(500 + i)
		stages[i].look()
	}
	for i := range stages {
		stages[i].look()
	}
	if w.look(); !same(w.s, end) {
		t.Error("the end is otherwise")
	}
}

// TestAnswersAreNewMemory spoils what Leaves and Map answer.
func TestAnswersAreNewMemory(t *testing.T) {
	w := walk{t: t}
	w.fill(9)
	w.cut(2)
	l, m := w.s.Leaves(table, 9), w.s.Map(9)
	for i := range l {
		l[i] = "spoilt"
	}
	clear(m)
	m["spoilt"] = "spoilt"
	w.look()
	log := w.done.requestsWant()
	if !slices.Equal(w.s.Leaves(table, 9), leavesWant(log)) || !maps.Equal(w.s.Map(9), mapWant(log)) {
		t.Error("what was answered is kept")
	}
	empty := w.s.Map(0)
	empty["spoilt"] = "spoilt"
	if len(w.s.Map(0)) != 0 || len(State{}.Map(0)) != 0 {
		t.Error("the empty map is kept")
	}
}

func TestEachTimeTheSame(t *testing.T) {
	w := walk{t: t}
	w.fill(33)
	w.cut(4)
	w.ask(request(1, 60))
	next, reply := w.s.Apply(request(2, 61))
	cut, ok := w.s.Cut(table, 8)
	for range 3 {
		if again, r := w.s.Apply(request(2, 61)); !same(again, next) || r != reply {
			t.Error("another answer of Apply")
		}
		if again, is := w.s.Cut(table, 8); !same(again, cut) || is != ok {
			t.Error("another answer of Cut")
		}
	}
}

// TestHeadsRiseAndTimesDoNotFall is of P11.3, with times that go up and down.
func TestHeadsRiseAndTimesDoNotFall(t *testing.T) {
	random := rand.New(rand.NewPCG(11, 3))
	for range 10 {
		w := walk{t: t}
		for i := range 40 {
			w.ask(request(i%4, i/4+1))
			if random.IntN(3) == 0 {
				w.cut(random.IntN(20) - 8)
				w.cut(random.IntN(20))
			}
		}
		lookAtHeads(t, w.s)
	}
}

// TestConsistency: each head is a beginning of each later one (layer 4), and of the whole log.
func TestConsistency(t *testing.T) {
	w := walk{t: t}
	for i := range 24 {
		w.ask(request(i%4, i/4+1))
		if i%3 != 1 {
			w.cut(i)
		}
	}
	for _, b := range w.s.Heads {
		l := w.s.Leaves(table, b.Size)
		for _, a := range w.s.Heads[:b.Seq] {
			p, e := merkle.Consistency(table, l, a.Size)
			if e != api.OK || !merkle.Consistent(table, a.Size, b.Size, a.Root, b.Root, p) {
				t.Errorf("%d and %d: %v", a.Seq, b.Seq, e)
			}
		}
	}
}

// The tests of R1.

// TestAnyStateEnds has states that no call makes: nothing is promised of them but that calls end.
func TestAnyStateEnds(t *testing.T) {
	wrong := api.Request{Client: -5, Seq: -5, Key: strings.Repeat("k", 300), Value: "v"}
	states := []State{
		{Requests: make([]api.Request, 70)},
		{Requests: []api.Request{wrong, wrong}, Heads: []api.Head{{Seq: -1, Size: -1, Time: -1}}},
		{Heads: []api.Head{{Size: math.MaxInt, Time: math.MaxInt}}},
		{Heads: make([]api.Head, 70)},
		{Clients: [4]Last{{math.MaxInt, math.MaxInt, api.Reply{}}, {math.MinInt, math.MinInt, api.Reply{}}, {-1, -1, api.Reply{}}, {1, 21, api.Reply{}}}},
	}
	for i, s := range states {
		var none sha.Table
		for _, n := range []int{math.MinInt, -1, 0, 1, 2, 70, 71, math.MaxInt} {
			s.Cut(table, n)
			s.Cut(none, n)
			s.Leaves(none, n)
			s.Map(n)
			s.Head(n)
			for client := range 4 {
				s.Apply(api.Request{Client: client, Seq: n, Leaf: "leaf"})
			}
			if _, reply := s.Apply(api.Request{Client: n, Seq: n}); reply != (api.Reply{Err: api.ErrArg}) {
				t.Errorf("%d: %v", i, reply)
			}
		}
	}
}

// FuzzScript reads a script off bytes, and holds each state of it against what was done.
func FuzzScript(f *testing.F) {
	f.Add([]byte{})
	f.Add([]byte{0, 1, 4, 2, 255, 7, 0, 1, 255, 3, 8, 9})
	f.Add([]byte(strings.Repeat("\x01\x0f\x12\xff\x05", 30)))
	f.Fuzz(func(t *testing.T, b []byte) {
		w := walk{t: t}
		for len(b) >= 2 && len(w.s.Heads) < 12 {
			if x, n := b[0], int(int8(b[1])); x == 255 {
				w.cut(n)
			} else {
				w.ask(request(int(x%5), int(x/5)+n))
			}
			b = b[2:]
		}
	})
}

func BenchmarkApply(b *testing.B) {
	var s State
	for i := range 63 {
		s, _ = s.Apply(request(i%4, i/4+1))
	}
	for b.Loop() {
		s.Apply(request(3, 100))
	}
}

func BenchmarkCut(b *testing.B) {
	var s State
	for i := range 64 {
		s, _ = s.Apply(request(i%4, i/4+1))
	}
	for b.Loop() {
		s.Cut(table, 1)
	}
}
