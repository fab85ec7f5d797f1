package export

import (
	"encoding/binary"
	"encoding/hex"
	"math"
	"math/rand/v2"
	"slices"
	"strconv"
	"strings"
	"testing"

	"annalist/api"
	"annalist/merkle"
	"annalist/sha"
	"annalist/smt"
	"annalist/state"
	"annalist/wire"
)

var table = sha.Make()

// emptyBytes are the empty state's, as the chapter gives them.
const emptyBytes = "S" + "\x4c\x00\x00\x00\x00" + "\x4c\x00\x00\x00\x00"

// The oracle says what the words of this chapter and of layer 11's say: nothing of this package is in it, and of layer 11
// nothing but its types. A record is what there must be in a state; its bytes are reckoned of layer 2 alone.

// piece is a head's size and time.
type piece struct{ size, time int }

type record struct {
	l     []api.Request
	heads []piece
}

// takes tells whether r must be taken behind what the record has.
func (x record) takes(r api.Request) bool {
	last, count := 0, 0
	for _, one := range x.l {
		if one.Client == r.Client {
			last, count = one.Seq, count+1
		}
	}
	return wire.Right(r) && r.Seq > last && count < 20 && len(x.l) < 64
}

// right tells whether calls make a state of the record.
func (x record) right() bool {
	for i, r := range x.l {
		if before := (record{l: x.l[:i]}); !before.takes(r) {
			return false
		}
	}
	for i, h := range x.heads {
		if h.size < 1 || h.size > len(x.l) || h.time < 0 || h.time > math.MaxInt32 {
			return false
		}
		if i > 0 && (h.size <= x.heads[i-1].size || h.time < x.heads[i-1].time) {
			return false
		}
	}
	return true
}

// applied answers the record behind r.
func (x record) applied(r api.Request) record {
	if x.takes(r) {
		x.l = append(slices.Clone(x.l), r)
	}
	return x
}

// cut answers the record once a head was asked for.
func (x record) cut(now int) record {
	var last piece
	if n := len(x.heads); n > 0 {
		last = x.heads[n-1]
	}
	if len(x.l) > last.size {
		x.heads = append(slices.Clone(x.heads), piece{len(x.l), max(now, last.time, 0)})
	}
	return x
}

// bytes are the state's.
func (x record) bytes() string {
	var requests, heads []string
	for _, r := range x.l {
		requests = append(requests, wire.Request(r))
	}
	for _, h := range x.heads {
		heads = append(heads, wire.Number(h.size)+wire.Number(h.time))
	}
	return "S" + wire.List(requests) + wire.List(heads)
}

// state is what calls must have made, reckoned of layers 2, 4 and 5.
func (x record) state() state.State {
	s := x.withoutHeads()
	for i, h := range x.heads {
		var leaves []api.Hash
		m := smt.Map{}
		for _, r := range x.l[:h.size] {
			leaves = append(leaves, merkle.Leaf(table, wire.Request(r)))
			if r.Key != "" {
				m[r.Key] = r.Value
			}
		}
		s.Heads = append(s.Heads, api.Head{Seq: i + 1, Size: h.size, Time: h.time, Root: merkle.Root(table, leaves), Map: smt.Root(table, m)})
	}
	return s
}

// withoutHeads is all of the state but its heads, which take long to reckon.
func (x record) withoutHeads() state.State {
	var s state.State
	for i, r := range x.l {
		s.Requests = append(s.Requests, r)
		head := 1
		for _, h := range x.heads {
			if h.size <= i {
				head++
			}
		}
		count := s.Clients[r.Client].Count + 1
		s.Clients[r.Client] = state.Last{Seq: r.Seq, Count: count, Reply: api.Reply{Index: i, Head: head}}
	}
	return s
}

// apiHeads are the heads as Prefix is handed them, with nothing but sizes and times.
func (x record) apiHeads() []api.Head {
	var l []api.Head
	for _, h := range x.heads {
		l = append(l, api.Head{Size: h.size, Time: h.time})
	}
	return l
}

// beginning is the record's first n requests, and those of its heads that are of no more.
func (x record) beginning(n int) record {
	made := record{l: x.l[:n]}
	for _, h := range x.heads {
		if h.size <= n {
			made.heads = append(made.heads, h)
		}
	}
	return made
}

// reader reads bytes for the oracle, one thing after the other; where something is wrong it stays so.
type reader struct {
	b     string
	wrong bool
}

func (d *reader) take(n int) string {
	if n < 0 || n > len(d.b) {
		d.wrong = true
		return strings.Repeat("\x00", min(max(n, 0), 8))
	}
	front := d.b[:n]
	d.b = d.b[n:]
	return front
}

func (d *reader) letter(want string) {
	if d.take(1) != want {
		d.wrong = true
	}
}

func (d *reader) number() int {
	n := binary.BigEndian.Uint32([]byte(d.take(4)))
	if n > math.MaxInt32 {
		d.wrong = true
	}
	return int(n)
}

// texts reads a list of at most 64 texts.
func (d *reader) texts() []string {
	d.letter("L")
	n := d.number()
	if n > 64 {
		d.wrong = true
		return nil
	}
	var l []string
	for range n {
		l = append(l, d.take(d.number()))
	}
	return l
}

// recordOf answers the record whose bytes are b, and whether there is one.
func recordOf(b string) (record, bool) {
	d := reader{b: b}
	d.letter("S")
	requests, heads := d.texts(), d.texts()
	if d.wrong || d.b != "" {
		return record{}, false
	}
	var x record
	for _, text := range requests {
		one := reader{b: text}
		one.letter("R")
		r := api.Request{Client: one.number(), Seq: one.number()}
		r.Leaf, r.Key, r.Value = one.take(one.number()), one.take(one.number()), one.take(one.number())
		if one.wrong || one.b != "" {
			return record{}, false
		}
		x.l = append(x.l, r)
	}
	for _, text := range heads {
		one := reader{b: text}
		h := piece{one.number(), one.number()}
		if one.wrong || one.b != "" {
			return record{}, false
		}
		x.heads = append(x.heads, h)
	}
	return x, x.right()
}

// same tells whether two states are one.
func same(a, b state.State) bool {
	return slices.Equal(a.Requests, b.Requests) && a.Clients == b.Clients && slices.Equal(a.Heads, b.Heads)
}

// kept answers a copy of the state that no call has seen.
func kept(s state.State) state.State {
	return state.State{Requests: slices.Clone(s.Requests), Clients: s.Clients, Heads: slices.Clone(s.Heads)}
}

// isNone tells whether nothing at all is in the state.
func isNone(s state.State) bool {
	return len(s.Requests) == 0 && s.Clients == [4]state.Last{} && len(s.Heads) == 0
}

// refuseBytes fails if a state has the bytes b.
func refuseBytes(t *testing.T, what, b string) {
	t.Helper()
	if s, e := Import(table, b); e != api.ErrForm || !isNone(s) {
		t.Errorf("%s: Import(%q) = %v, %v", what, b, s, e)
	}
}

// refusePrefix fails if there is a state of l and heads.
func refusePrefix(t *testing.T, what string, l []api.Request, heads []api.Head) {
	t.Helper()
	if s, e := Prefix(table, l, heads); e != api.ErrForm || !isNone(s) {
		t.Errorf("%s: Prefix(%v, %v) = %v, %v", what, l, heads, s, e)
	}
}

// takePrefix fails if the state of l and heads isn't the record's.
func takePrefix(t *testing.T, what string, l []api.Request, heads []api.Head, want record) {
	t.Helper()
	if s, e := Prefix(table, l, heads); e != api.OK || !same(s, want.state()) {
		t.Errorf("%s: Prefix(%v, %v) = %v, %v", what, l, heads, s, e)
	}
}

// walk is a state that layer 11's calls make, and what there must be in it.
type walk struct {
	t    *testing.T
	s    state.State
	want record
}

func (w *walk) ask(r api.Request) {
	w.s, _ = w.s.Apply(r)
	w.want = w.want.applied(r)
}

func (w *walk) cut(now int) {
	w.s, _ = w.s.Cut(table, now)
	w.want = w.want.cut(now)
}

// look exports and imports the state, and fails if the bytes or the state that comes are otherwise.
func (w *walk) look() {
	w.t.Helper()
	before := kept(w.s)
	b := Export(w.s)
	if b != w.want.bytes() {
		w.t.Fatalf("Export(%v) = %q, want %q", w.s, b, w.want.bytes())
	}
	if !same(w.s, before) {
		w.t.Fatalf("what was handed in is otherwise: %v, was %v", w.s, before)
	}
	s, e := Import(table, b)
	if e != api.OK || !same(s, w.s) {
		w.t.Fatalf("Import(%q) = %v, %v, want %v", b, s, e, w.s)
	}
	if Export(s) != b {
		w.t.Fatalf("what came of %q has other bytes", b)
	}
}

// lookWhole looks at all that follows of a state: what was reckoned of it, that calls go on from what is imported, and each
// beginning of it.
func (w *walk) lookWhole() {
	w.t.Helper()
	w.look()
	whole := w.want.state()
	if !same(w.s, whole) {
		w.t.Fatalf("the state %v, want %v", w.s, whole)
	}
	s, _ := Import(table, Export(w.s))
	goOnAlike(w.t, s, w.s)
	for n := range len(w.want.l) + 1 {
		x := w.want.beginning(n)
		want := x.withoutHeads()
		want.Heads = whole.Heads[:len(x.heads)]
		if s, e := Prefix(table, w.s.Requests[:n], want.Heads); e != api.OK || !same(s, want) {
			w.t.Fatalf("the first %d: %v, %v, want %v", n, s, e, want)
		}
	}
}

// goOnAlike lets both states take the same calls, and fails if anything is answered otherwise.
func goOnAlike(t *testing.T, a, b state.State) {
	t.Helper()
	ask := func(r api.Request) {
		t.Helper()
		var one, two api.Reply
		a, one = a.Apply(r)
		b, two = b.Apply(r)
		if one != two || !same(a, b) {
			t.Fatalf("%v: %v, the other one %v", r, one, two)
		}
	}
	cut := func(now int) {
		t.Helper()
		var one, two bool
		a, one = a.Cut(table, now)
		b, two = b.Cut(table, now)
		if one != two || !same(a, b) {
			t.Fatalf("cut at %d: %v, the other one %v", now, one, two)
		}
	}
	for client, last := range a.Clients {
		for _, seq := range []int{last.Seq, last.Seq - 1, 0, last.Seq + 1, last.Seq, last.Seq + 9} {
			ask(api.Request{Client: client, Seq: seq, Leaf: "gone on", Key: "k" + strconv.Itoa(client)})
		}
		cut(3)
		cut(5)
	}
	ask(api.Request{Client: 4, Seq: 1, Leaf: "gone on"})
	cut(math.MaxInt32)
	if Export(a) != Export(b) {
		t.Fatal("the bytes are otherwise")
	}
}

// request answers an ordinary one.
func request(client, seq int) api.Request {
	n := 7*client + 3*seq
	r := api.Request{Client: client, Seq: seq, Leaf: "leaf " + strconv.Itoa(client) + " " + strconv.Itoa(seq)}
	if n%5 != 0 {
		r.Key = "key " + strconv.Itoa(n%3) // few keys: a map's root takes long
	}
	if n%5 > 1 {
		r.Value = "value " + strconv.Itoa(n)
	}
	return r
}

// turns answers n ordinary requests of the four clients in turn, their Seqs from 1 on.
func turns(n int) []api.Request {
	var l []api.Request
	for i := range n {
		l = append(l, request(i%4, i/4+1))
	}
	return l
}

// The tests of P12.1 and P12.2: states that are written and read again.

func TestEmptyState(t *testing.T) {
	for _, s := range []state.State{{}, {Requests: []api.Request{}, Heads: []api.Head{}}} {
		if b := Export(s); b != emptyBytes {
			t.Errorf("%q", b)
		}
	}
	if s, e := Import(table, emptyBytes); e != api.OK || !isNone(s) {
		t.Errorf("%v, %v", s, e)
	}
	for _, l := range [][]api.Request{nil, {}} {
		for _, heads := range [][]api.Head{nil, {}} {
			if s, e := Prefix(table, l, heads); e != api.OK || !isNone(s) {
				t.Errorf("%v, %v", s, e)
			}
		}
	}
	w := walk{t: t}
	w.cut(7) // there is nothing to cut a head of
	w.ask(api.Request{})
	w.lookWhole()
}

// TestBytesByHand has a state's bytes written out.
func TestBytesByHand(t *testing.T) {
	w := walk{t: t}
	w.ask(api.Request{Client: 1, Seq: 2, Leaf: "a", Key: "k", Value: "v"})
	w.cut(3)
	w.ask(api.Request{Client: 0, Seq: 1, Leaf: "b", Key: "k"})
	w.cut(258)
	want := "S" +
		"L\x00\x00\x00\x02" +
		"\x00\x00\x00\x18R\x00\x00\x00\x01\x00\x00\x00\x02\x00\x00\x00\x01a\x00\x00\x00\x01k\x00\x00\x00\x01v" +
		"\x00\x00\x00\x17R\x00\x00\x00\x00\x00\x00\x00\x01\x00\x00\x00\x01b\x00\x00\x00\x01k\x00\x00\x00\x00" +
		"L\x00\x00\x00\x02" +
		"\x00\x00\x00\x08\x00\x00\x00\x01\x00\x00\x00\x03" +
		"\x00\x00\x00\x08\x00\x00\x00\x02\x00\x00\x01\x02"
	if b := Export(w.s); b != want {
		t.Errorf("%q, want %q", b, want)
	}
	w.lookWhole()
}

// few and many are requests of which another program has reckoned the bytes, and the heads, of the words alone.
func few() []api.Request {
	return []api.Request{
		{Client: 1, Seq: 2, Leaf: "a", Key: "k", Value: "v"},
		{Client: 0, Seq: 1, Leaf: "b", Key: "k"},
		{Client: 3, Seq: math.MaxInt32, Leaf: "\x00\xff"},
		{Client: 2, Seq: 7, Leaf: strings.Repeat("l", 200), Key: strings.Repeat("k", 50), Value: strings.Repeat("v", 100)},
		{Client: 1, Seq: 3, Leaf: "a"},
		{Client: 0, Seq: 9, Leaf: "c", Key: "j", Value: "w"},
		{Client: 2, Seq: 8, Leaf: "d", Key: "k", Value: "again"},
	}
}

func many() []api.Request {
	var l []api.Request
	for i := range 64 {
		r := api.Request{Client: i % 4, Seq: 1 + i/4, Leaf: "leaf " + strconv.Itoa(i)}
		if i%5 != 4 {
			r.Key = "key " + strconv.Itoa(i%23)
		}
		if i%5 != 4 && i%7 != 3 {
			r.Value = "value " + strconv.Itoa(i)
		}
		l = append(l, r)
	}
	return l
}

func TestReckonedElsewhere(t *testing.T) {
	for i, c := range []struct {
		l      []api.Request
		heads  []piece
		size   int
		digest string
		roots  []string // of the last heads, as far as they were reckoned
		maps   []string
	}{
		{few(), []piece{{1, 0}, {2, 5}, {4, 5}, {7, math.MaxInt32}}, 602, "ca20a9df0e1923032a1e10f116a9e9a1f771aafd0402e005bd9482f0066d56e5",
			[]string{"9eec67d0ddebf2e0d757a52d054e6f2c735164fd7b0f86d00e3cc3c7c0e686b4", "9ff878245bb2e4d8bb30c84dd27d245531b9339681395159486ea488608f2df7",
				"9d2e46b0ccbced3edcddcf64d81f5e3e33c1ca1626c65abf501625a40339a516", "3ed421e0655e367f741dbe6e5f5ed75b794271a202ad7cefd3a2ceaf0a807526"},
			[]string{"f6739954b9cbe85b231770a9a6de8030d545d887c356456a32917b117da980ee", "7206898cb10bc72ddb2f898c1e19873ad711bbbe03d4fc785ec65ec7fce7d212",
				"8ca222ac05fb2b53cfa18e28122409911d5672d5f6f708691f0da2dc8279f466", "aeabd83a54d35df488ad3a6a564bab3d5dd3f3fc765a967ee8db81e94c7210b2"}},
		{many(), []piece{{1, 12}, {8, 12}, {33, 13}, {63, math.MaxInt32 - 1}, {64, math.MaxInt32}}, 2750, "e147fd860100b6b6510b0afaa9794c1c3e274ae3a2f43a11ad3ff0153a3ea211",
			[]string{"893ec1a77e50fe7bac5e55c9f3823e79ae62e27815c2a18e744126a0da48b32e", "b3a09af3b4adbdbb92979db956741d35890e1a7f136358db4d24bfa41d33594c",
				"dbe22c8bf7c265ee6965e5a3b07a28e021eb9f0fe76556ad052ba4b22e6aa771", "c917ca63f06c9c652ba2802d49526ed2043a957b4d3520c1d809e07cfbfed02c",
				"af4f2689ac74c8add224d44e9085cf353b67ebc0acacc6812cb68581732b7031"},
			[]string{"d7c53fb4350813d1a114545b95c7d6f4330fd190946948340304e139b2f9486e", "85639f0a06202b97b387a29b76a58355060924802dd7b344f9aa575a83591247",
				"794aece2365d5b796fb6d06aa7794d0ee968a7915f3f8fbc53ccb71e2e673fbb", "b7c49341768049ba6535c7b06de568162cc44ac9c52e50f8424ebc89e36f8404",
				"7d67a42e2c2308813fcaacde0833a1d27511f084639b34a3e344509ccf6a2791"}},
		{many(), nil, 2690, "93f556aabce810c56b5e7ad79ebccaa79c12946bdec4c9b84d7cda9d6db54210", nil, nil},
	} {
		s, e := Prefix(table, c.l, record{c.l, c.heads}.apiHeads())
		b := Export(s)
		digest := sha.Sum(table, b)
		if e != api.OK || len(b) != c.size || hex.EncodeToString([]byte(digest)) != c.digest {
			t.Errorf("%d: %d bytes, %x, %v", i, len(b), digest, e)
		}
		s, e = Import(table, b)
		if e != api.OK || len(s.Heads) != len(c.heads) {
			t.Fatalf("%d: %v, %v", i, s, e)
		}
		for j, h := range s.Heads {
			root, behind := hex.EncodeToString([]byte(h.Root)), hex.EncodeToString([]byte(h.Map))
			if h.Seq != j+1 || (piece{h.Size, h.Time}) != c.heads[j] || root != c.roots[j] || behind != c.maps[j] {
				t.Errorf("%d: %v, %s, %s", i, h, root, behind)
			}
		}
	}
}

func TestEachClientsOnlyRequest(t *testing.T) {
	for client := range 4 {
		for _, seq := range []int{1, 2, 255, 256, math.MaxInt32} {
			w := walk{t: t}
			w.ask(request(client, seq))
			w.lookWhole()
			w.cut(client)
			w.lookWhole()
		}
	}
}

// TestOneScript goes through all that may happen to a state, and looks at it behind each.
func TestOneScript(t *testing.T) {
	t.Parallel()
	w := walk{t: t}
	const cut = -1
	for _, c := range []struct{ client, seq int }{ // of the client -1 a head is cut, at the time seq
		{1, 2}, {1, 2}, {1, 1}, {0, 1}, {cut, 5}, {cut, 6}, {1, 2}, {3, 9}, {cut, 4}, {2, 1}, {2, 2}, {2, 1}, {4, 1}, {cut, 9},
		{1, 3}, {1, 0}, {3, 8}, {cut, -3}, {3, math.MaxInt32}, {3, math.MaxInt32}, {3, math.MaxInt32 + 1}, {0, 70000},
		{cut, math.MaxInt32}, {2, 3}, {cut, 0}, {0, 70001}, {1, 4},
	} {
		if c.client == cut {
			w.cut(c.seq)
		} else {
			w.ask(request(c.client, c.seq))
		}
		w.lookWhole()
	}
	if len(w.s.Requests) != 11 || len(w.s.Heads) != 6 {
		t.Errorf("%d requests, %d heads", len(w.s.Requests), len(w.s.Heads))
	}
}

// anyRequest answers one that is right most times, of few Seqs and keys, so that much comes twice.
func anyRequest(random *rand.Rand) api.Request {
	r := api.Request{Client: random.IntN(4), Seq: 1 + random.IntN(40), Leaf: strings.Repeat("l", 1+random.IntN(9))}
	if random.IntN(4) > 0 {
		r.Key = "key " + strconv.Itoa(random.IntN(3))
		r.Value = strings.Repeat("v", random.IntN(3))
	}
	switch random.IntN(20) {
	case 0:
		r.Client = []int{-1, 4, math.MinInt, math.MaxInt}[random.IntN(4)]
	case 1:
		r.Seq = []int{0, -1, math.MaxInt32 + 1, math.MinInt}[random.IntN(4)]
	case 2:
		r.Leaf = strings.Repeat("l", 201*random.IntN(2))
	case 3:
		r.Key, r.Value = "", "value"
	}
	return r
}

func TestManyScripts(t *testing.T) {
	for i := range 24 {
		t.Run(strconv.Itoa(i), func(t *testing.T) {
			t.Parallel()
			random := rand.New(rand.NewPCG(12, uint64(i)))
			w := walk{t: t}
			for range 10 + random.IntN(90) {
				switch client := random.IntN(4); random.IntN(10) {
				case 0:
					w.cut(random.IntN(60) - 5)
				case 1, 2:
					w.ask(anyRequest(random))
				default:
					w.ask(request(client, w.s.Clients[client].Seq+random.IntN(3)))
				}
			}
			w.lookWhole()
		})
	}
}

// TestHeadBehindEachRequest has as many heads as there can be.
func TestHeadBehindEachRequest(t *testing.T) {
	t.Parallel()
	w := walk{t: t}
	for i, r := range turns(64) {
		w.ask(r)
		w.cut(i / 3)
	}
	if w.look(); len(w.s.Heads) != 64 || !same(w.s, w.want.state()) {
		t.Errorf("%d heads", len(w.s.Heads))
	}
	s, _ := Import(table, Export(w.s))
	goOnAlike(t, s, w.s)
}

// TestFullLog has requests of the greatest size, and clients that have had their share.
func TestFullLog(t *testing.T) {
	t.Parallel()
	w := walk{t: t}
	for i := range 84 {
		w.ask(api.Request{Client: i / 21, Seq: math.MaxInt32 - 30 + i%21, Leaf: strings.Repeat("\xff", 200), Key: strings.Repeat("k", 50), Value: strings.Repeat("v", 100)})
		if i == 20 {
			w.cut(8)
		}
	}
	w.cut(math.MaxInt32)
	if len(w.s.Requests) != 64 || w.s.Clients[0].Count != 20 || w.s.Clients[3].Count != 4 {
		t.Errorf("%v", w.s.Clients)
	}
	w.lookWhole()
}

// The tests of P12.1: Prefix.

// TestHeadsOfAnySizes has of a few requests all the heads that there can be.
func TestHeadsOfAnySizes(t *testing.T) {
	l := turns(6)
	for mask := range 1 << len(l) {
		x := record{l: l}
		for i := range l {
			if mask>>i&1 == 1 {
				x.heads = append(x.heads, piece{i + 1, 5 + i/2})
			}
		}
		takePrefix(t, strconv.Itoa(mask), l, x.apiHeads(), x)
		if b := x.bytes(); mask%5 == 0 {
			if s, e := Import(table, b); e != api.OK || !same(s, x.state()) || Export(s) != b {
				t.Errorf("%d: %v, %v", mask, s, e)
			}
		}
	}
}

// TestRootsAndNumbersAreNotLookedAt has heads that are otherwise in all but sizes and times.
func TestRootsAndNumbersAreNotLookedAt(t *testing.T) {
	x := record{turns(9), []piece{{1, 0}, {4, 0}, {5, 8}, {9, 8}}}
	for i, change := range []func(n int, h *api.Head){
		func(n int, h *api.Head) {},
		func(n int, h *api.Head) { h.Seq = 0 },
		func(n int, h *api.Head) { h.Seq = n + 2 },
		func(n int, h *api.Head) { h.Seq = 7 - n },
		func(n int, h *api.Head) { h.Seq = math.MinInt },
		func(n int, h *api.Head) { h.Seq = math.MaxInt },
		func(n int, h *api.Head) { h.Root = "" },
		func(n int, h *api.Head) { h.Root, h.Map = h.Map, h.Root },
		func(n int, h *api.Head) { h.Map = "map" },
		func(n int, h *api.Head) { h.Seq, h.Root, h.Map = -1, strings.Repeat("r", 32), strings.Repeat("m", 70) },
	} {
		heads := slices.Clone(x.state().Heads)
		for n := range heads {
			change(n, &heads[n])
		}
		takePrefix(t, strconv.Itoa(i), x.l, heads, x)
	}
}

func TestTimesThatAreWell(t *testing.T) {
	l := turns(3)
	for _, times := range [][3]int{{0, 0, 0}, {0, 0, 1}, {1, 1, 1}, {0, 5, 5}, {1, 2, 3}, {0, 0, math.MaxInt32},
		{math.MaxInt32 - 1, math.MaxInt32 - 1, math.MaxInt32}, {math.MaxInt32, math.MaxInt32, math.MaxInt32}} {
		x := record{l, []piece{{1, times[0]}, {2, times[1]}, {3, times[2]}}}
		takePrefix(t, "times", l, x.apiHeads(), x)
		if s, e := Import(table, x.bytes()); e != api.OK || !same(s, x.state()) {
			t.Errorf("%v: %v, %v", times, s, e)
		}
	}
}

// The tests of P12.1: requests that aren't taken, in Prefix and in Import.

// refuseBoth fails if Prefix takes the requests, or Import their bytes.
func refuseBoth(t *testing.T, what string, l []api.Request, heads []piece) {
	t.Helper()
	x := record{l, heads}
	refusePrefix(t, what, l, x.apiHeads())
	refuseBytes(t, what, x.bytes())
	refusePrefix(t, what+", without heads", l, nil)
	refusePrefix(t, what+", with a head of the first", l, []api.Head{{Size: 1, Time: 4}})
	refusePrefix(t, what+", with a head of all", l, []api.Head{{Size: len(l), Time: 4}})
}

func TestRequestsThatAreNotRight(t *testing.T) {
	right := api.Request{Client: 1, Seq: 1000, Leaf: "leaf", Key: "key", Value: "value"}
	wrong := map[string]func(r *api.Request){
		"nothing":             func(r *api.Request) { *r = api.Request{} },
		"client 4":            func(r *api.Request) { r.Client = 4 },
		"client 256":          func(r *api.Request) { r.Client = 256 },
		"seq 0":               func(r *api.Request) { r.Seq = 0 },
		"seq 2^31":            func(r *api.Request) { r.Seq = math.MaxInt32 + 1 },
		"seq below 0":         func(r *api.Request) { r.Seq = -7 },
		"no leaf":             func(r *api.Request) { r.Leaf = "" },
		"leaf of 201":         func(r *api.Request) { r.Leaf = strings.Repeat("l", 201) },
		"key of 51":           func(r *api.Request) { r.Key = strings.Repeat("k", 51) },
		"value of 101":        func(r *api.Request) { r.Value = strings.Repeat("v", 101) },
		"value without a key": func(r *api.Request) { r.Key = "" },
	}
	for what, change := range wrong {
		r := right
		change(&r)
		for n := range 4 {
			l := slices.Insert(turns(3), n, r)
			refuseBoth(t, what, l, nil)
			refuseBoth(t, what, l, []piece{{1, 2}, {4, 2}})
		}
	}
	// A client below 0 is written as 0, so that its bytes are another request's.
	for _, client := range []int{-1, math.MinInt, math.MaxInt} {
		refusePrefix(t, "client", []api.Request{{Client: client, Seq: 1, Leaf: "leaf"}}, nil)
	}
}

// TestRequestsAskedAgain has each of a few requests twice, at each place behind it, as it was, or with other contents.
func TestRequestsAskedAgain(t *testing.T) {
	l := turns(7)
	for i, r := range l {
		for n := i + 1; n <= len(l); n++ {
			refuseBoth(t, "again", slices.Insert(slices.Clone(l), n, r), []piece{{i + 1, 3}})
			r.Leaf = "other"
			refuseBoth(t, "again, otherwise", slices.Insert(slices.Clone(l), n, r), nil)
		}
	}
	r := api.Request{Client: 3, Seq: 1, Leaf: "a"}
	refuseBoth(t, "at once", []api.Request{r, r}, []piece{{1, 0}})
	refuseBoth(t, "at once", []api.Request{r, r}, []piece{{2, 0}})
	refuseBoth(t, "twice", []api.Request{r, r, r}, nil)
}

func TestRequestsOfAnEarlierSeq(t *testing.T) {
	for _, last := range []int{2, 3, 1000, math.MaxInt32} {
		for _, seq := range []int{1, last / 2, last - 1} {
			l := []api.Request{request(0, 1), request(2, last), request(3, 1), request(2, seq)}
			refuseBoth(t, "earlier", l, []piece{{2, 1}})
			refuseBoth(t, "earlier", append(l, request(1, 1)), nil)
			l[3].Client = 1 // another one's Seqs are its own
			x := record{l, []piece{{3, 6}}}
			takePrefix(t, "of another client", l, x.apiHeads(), x)
		}
	}
}

func TestAClients21st(t *testing.T) {
	for client := range 4 {
		var l []api.Request
		for i := range 20 {
			l = append(l, request(client, 3*i+1))
		}
		x := record{l, []piece{{20, 1}}}
		takePrefix(t, "twenty", l, x.apiHeads(), x)
		for _, seq := range []int{59, 100, math.MaxInt32} {
			more := append(slices.Clone(l), request(client, seq))
			refuseBoth(t, "the 21st", more, []piece{{20, 1}})
			refuseBoth(t, "the 21st", append(more, request((client+1)%4, 1)), nil)
		}
	}
}

func TestTheLogs65th(t *testing.T) {
	l := turns(64)
	x := record{l, []piece{{64, 1}}}
	takePrefix(t, "64", l, x.apiHeads(), x)
	for client := range 4 {
		refuseBoth(t, "the 65th", append(slices.Clone(l), request(client, 17)), []piece{{64, 1}})
	}
	refuseBoth(t, "80", turns(80), nil)
	refuseBoth(t, "1001", turns(1001), nil)
}

// The tests of P12.1: heads that can't be, in Prefix and in Import.

// wrongPieces answers of five requests sizes and times that can't be.
func wrongPieces() map[string][]piece {
	return map[string][]piece{
		"size 0":                        {{0, 0}},
		"size 0, ahead of others":       {{0, 1}, {1, 1}, {3, 1}},
		"size 0, behind others":         {{1, 1}, {0, 1}},
		"the same size twice":           {{2, 1}, {2, 1}},
		"the same size twice, later":    {{1, 1}, {5, 1}, {5, 2}},
		"sizes that fall":               {{3, 1}, {2, 1}},
		"sizes that fall, and rise":     {{1, 1}, {4, 1}, {2, 1}, {5, 1}},
		"sizes from the last one":       {{5, 1}, {1, 1}},
		"size 6":                        {{6, 1}},
		"size 6, behind others":         {{1, 1}, {5, 1}, {6, 1}},
		"size 64":                       {{64, 1}},
		"size 256 and 1":                {{257, 1}},
		"size 2^31 - 1":                 {{math.MaxInt32, 1}},
		"times that fall":               {{1, 7}, {2, 6}},
		"times that fall, to 0":         {{1, 1}, {2, 0}},
		"times that fall, later":        {{1, 1}, {2, 7}, {3, 7}, {4, 8}, {5, 7}},
		"times that fall, and rise":     {{1, 5}, {2, 3}, {3, 9}},
		"times that fall, from far":     {{2, math.MaxInt32}, {3, math.MaxInt32 - 1}},
		"times that fall, at last head": {{1, 2}, {3, 2}, {5, 1}},
	}
}

func TestHeadsThatCanNotBe(t *testing.T) {
	l := turns(5)
	for what, pieces := range wrongPieces() {
		x := record{l, pieces}
		refusePrefix(t, what, l, x.apiHeads())
		refuseBytes(t, what, x.bytes())
	}
	for _, n := range []int{-1, -2, math.MinInt, 1 << 32, 1<<32 + 1, math.MaxInt, math.MaxInt32 + 2} {
		refusePrefix(t, "size", l, []api.Head{{Size: n, Time: 3}})
		refusePrefix(t, "size, behind another", l, []api.Head{{Size: 1, Time: 3}, {Size: n, Time: 3}})
	}
	for _, n := range []int{-1, -2, math.MinInt, math.MaxInt32 + 1, math.MaxInt32 + 2, 1 << 32, 1<<32 + 5, math.MaxInt} {
		refusePrefix(t, "time", l, []api.Head{{Size: 1, Time: n}})
		refusePrefix(t, "time, behind another", l, []api.Head{{Size: 1, Time: 3}, {Size: 5, Time: n}})
		refusePrefix(t, "time, ahead of another", l, []api.Head{{Size: 1, Time: n}, {Size: 5, Time: n}})
	}
	// Numbers above 2^31 - 1 have bytes that no number has.
	for _, n := range []string{"\x80\x00\x00\x00", "\x80\x00\x00\x01", "\xff\xff\xff\xff"} {
		front := "S" + wire.List([]string{wire.Request(l[0])})
		refuseBytes(t, "size", front+wire.List([]string{n + wire.Number(1)}))
		refuseBytes(t, "time", front+wire.List([]string{wire.Number(1) + n}))
	}
	for _, h := range []api.Head{{}, {Size: 1}, {Size: -1}, {Seq: 1, Time: 3}} {
		refusePrefix(t, "a head of nothing", nil, []api.Head{h})
		refuseBytes(t, "a head of nothing", "S"+wire.List(nil)+wire.List([]string{wire.Number(h.Size) + wire.Number(h.Time)}))
	}
	refusePrefix(t, "more heads than requests", l, make([]api.Head, 70))
}

// The tests of P12.1: bytes that no state has.

// samples answers states of which bytes are spoilt.
func samples() map[string]record {
	least := []api.Request{{Client: 0, Seq: 1, Leaf: "a"}}
	return map[string]record{
		"empty":          {},
		"one":            {l: least},
		"one, and heads": {least, []piece{{1, 0}}},
		"several":        {turns(5), []piece{{1, 3}, {2, 3}, {5, 70000}}},
		"no heads":       {l: turns(4)},
	}
}

func TestBytesTooManyOrTooFew(t *testing.T) {
	for what, x := range samples() {
		b := x.bytes()
		for n := range len(b) {
			refuseBytes(t, what+", cut short", b[:n])
			refuseBytes(t, what+", without its front", b[n+1:])
			refuseBytes(t, what+", a byte less", b[:n]+b[n+1:])
			refuseBytes(t, what+", a nought more", b[:n]+"\x00"+b[n:])
		}
		for _, more := range []string{"x", "\x00", "\x00\x00\x00\x00", "L", "L\x00\x00\x00\x00", "S", emptyBytes, b, strings.Repeat("\x00", 12)} {
			refuseBytes(t, what+", and more", b+more)
			refuseBytes(t, what+", and more ahead", more+b)
		}
	}
	for _, b := range []string{"", "S", "s", "L", "SL", "SLL", "SL\x00\x00\x00\x00", "SL\x00\x00\x00\x00L", "L\x00\x00\x00\x00L\x00\x00\x00\x00",
		"SS", "\x00", "SL\x00\x00\x00\x00S\x00\x00\x00\x00", "sL\x00\x00\x00\x00L\x00\x00\x00\x00", "SL\x00\x00\x00\x00L\x00\x00\x00\x01"} {
		refuseBytes(t, "no lists", b)
	}
}

// lookAtBytes fails if b is read, though no state has it, or isn't read as what has it.
func lookAtBytes(t *testing.T, b string) bool {
	t.Helper()
	x, ok := recordOf(b)
	if !ok {
		refuseBytes(t, "bytes of no state", b)
		return false
	}
	s, e := Import(table, b)
	if e != api.OK || !same(s, x.state()) || Export(s) != b {
		t.Errorf("Import(%q) = %v, %v", b, s, e)
	}
	return true
}

// TestAByteThatIsOtherwise changes each byte: that is another state's bytes then, or none's.
func TestAByteThatIsOtherwise(t *testing.T) {
	t.Parallel()
	for what, x := range samples() {
		b := x.bytes()
		read, refused := 0, 0
		for i := range len(b) {
			for _, change := range []byte{1, 2, 4, 8, 16, 32, 64, 128, 255, b[i], b[i] ^ 255} {
				other := []byte(b)
				if other[i] ^= change; change == 0 {
					continue
				}
				if lookAtBytes(t, string(other)) {
					read++
				} else {
					refused++
				}
			}
		}
		if refused == 0 || read == 0 && what != "empty" {
			t.Errorf("%s: %d read, %d refused", what, read, refused)
		}
	}
	for letter := range 256 {
		if b := string([]byte{byte(letter)}) + emptyBytes[1:]; letter != 'S' {
			refuseBytes(t, "letter", b)
		}
	}
}

// TestBytesPutTogetherAnew takes pieces of bytes out, puts them in twice, and changes their order.
func TestBytesPutTogetherAnew(t *testing.T) {
	t.Parallel()
	random := rand.New(rand.NewPCG(12, 7))
	for _, x := range samples() {
		b := x.bytes()
		for range 400 {
			i, j := random.IntN(len(b)+1), random.IntN(len(b)+1)
			i, j = min(i, j), max(i, j)
			k := random.IntN(len(b) + 1)
			lookAtBytes(t, b[:i]+b[j:])
			lookAtBytes(t, b[:k]+b[i:j]+b[k:])
			lookAtBytes(t, b[j:]+b[i:j]+b[:i])
			two := []byte(b)
			two[random.IntN(len(b))] ^= byte(1 << random.IntN(8))
			two[random.IntN(len(b))] = byte(random.IntN(5))
			lookAtBytes(t, string(two))
		}
	}
}

// TestListsWithinLists has lists that aren't right, or of texts that are none's.
func TestListsWithinLists(t *testing.T) {
	a, b := wire.Request(request(0, 1)), wire.Request(request(1, 1))
	head := wire.Number(1) + wire.Number(5)
	list := wire.List
	if !lookAtBytes(t, "S"+list([]string{a, b})+list([]string{head})) {
		t.Error("what is spoilt here isn't right")
	}
	for what, l := range map[string]string{
		"a head's list first":         list([]string{head}) + list([]string{a, b}),
		"no list of heads":            list([]string{a, b}),
		"three lists":                 list([]string{a, b}) + list([]string{head}) + list(nil),
		"three lists, one ahead":      list(nil) + list([]string{a, b}) + list([]string{head}),
		"one list":                    list([]string{a, b, head}),
		"a list of lists":             list([]string{list([]string{a, b}), list([]string{head})}),
		"a list as a request":         list([]string{list([]string{a})}) + list(nil),
		"a list as a head":            list([]string{a}) + list([]string{list(nil)}),
		"requests in one text":        list([]string{a + b}) + list([]string{head}),
		"a head as a request":         list([]string{wire.Head(api.Head{Seq: 1, Size: 1, Root: strings.Repeat("r", 32), Map: strings.Repeat("m", 32)})}) + list(nil),
		"a head's bytes":              list([]string{a}) + list([]string{wire.Head(api.Head{Seq: 1, Size: 1, Root: strings.Repeat("r", 32), Map: strings.Repeat("m", 32)})}),
		"a request as a head":         list([]string{a}) + list([]string{b}),
		"an empty text":               list([]string{""}) + list(nil),
		"an empty text ahead":         list([]string{"", a}) + list(nil),
		"an empty text behind":        list([]string{a, ""}) + list([]string{head}),
		"a request with more":         list([]string{a + "x", b}) + list([]string{head}),
		"a request with a nought":     list([]string{a, b + "\x00"}) + list([]string{head}),
		"a request with less":         list([]string{a, b[:len(b)-1]}) + list([]string{head}),
		"a request without a letter":  list([]string{a[1:]}) + list(nil),
		"another letter":              list([]string{"r" + a[1:]}) + list(nil),
		"another letter of a list":    "l" + list([]string{a})[1:] + list(nil),
		"another letter of the heads": list([]string{a}) + "R" + list(nil)[1:],
		"one less than told":          "L" + wire.Number(3) + wire.Text(a) + wire.Text(b) + list([]string{head}),
		"one more than told":          "L" + wire.Number(1) + wire.Text(a) + wire.Text(b) + list([]string{head}),
		"none told":                   "L" + wire.Number(0) + wire.Text(a) + list(nil),
		"more heads than told":        list([]string{a}) + "L" + wire.Number(0) + wire.Text(head),
		"fewer heads than told":       list([]string{a}) + "L" + wire.Number(2) + wire.Text(head),
		"a text that is too long":     "L" + wire.Number(1) + wire.Number(len(a)+5) + a + list(nil),
		"a text that takes it all":    "L" + wire.Number(1) + wire.Number(len(a)+5) + a + list(nil) + list(nil),
		"many told":                   "L\x7f\xff\xff\xff" + wire.Text(a) + list(nil),
		"too many told":               "L\xff\xff\xff\xff" + wire.Text(a) + list(nil),
		"a great length":              "L" + wire.Number(1) + "\x7f\xff\xff\xff" + a + list(nil),
		"too great a length":          "L" + wire.Number(1) + "\xff\xff\xff\xff" + a + list(nil),
		"many heads told":             list([]string{a}) + "L\x7f\xff\xff\xff" + wire.Text(head),
		"too many heads told":         list([]string{a}) + "L\xff\xff\xff\xff" + wire.Text(head),
		"1000 empty texts":            list(make([]string, 1000)) + list(nil),
		"1001 empty texts":            list(make([]string, 1001)) + list(nil),
		"1000 empty heads":            list([]string{a}) + list(make([]string, 1000)),
		"1001 empty heads":            list([]string{a}) + list(make([]string, 1001)),
	} {
		refuseBytes(t, what, "S"+l)
		if _, ok := recordOf("S" + l); ok {
			t.Errorf("%s: a state has this", what)
		}
	}
}

// TestPiecesOfAnotherSize has heads that are told in more bytes than 8, or in fewer.
func TestPiecesOfAnotherSize(t *testing.T) {
	l := wire.List([]string{wire.Request(request(0, 1)), wire.Request(request(1, 1))})
	whole := wire.Number(1) + wire.Number(1) + wire.Number(1) + wire.Number(1) + wire.Number(1)
	for n := range len(whole) + 1 {
		for _, text := range []string{whole[:n], strings.Repeat("\x00", n), strings.Repeat("\x01", n), strings.Repeat("\x00", max(n-1, 0)) + "\x01"} {
			for _, heads := range [][]string{{text}, {wire.Number(1) + wire.Number(0), text}, {text, wire.Number(2) + wire.Number(9)}} {
				if lookAtBytes(t, "S"+l+wire.List(heads)) && n != 8 {
					t.Errorf("a piece of %d bytes is read: %q", n, heads)
				}
			}
		}
	}
	for _, text := range []string{wire.Number(1) + "\x00" + wire.Number(5), "\x00" + wire.Number(1) + wire.Number(5), wire.Number(1) + wire.Number(5) + "\x00",
		wire.Text(wire.Number(1) + wire.Number(5)), wire.Number(1) + "\x05", "\x01" + wire.Number(5), "\x01\x05"} {
		refuseBytes(t, "piece", "S"+l+wire.List([]string{text}))
	}
}

// The tests of P12.2.

// TestStatesComeAgain: of two states that aren't one the bytes are unlike, too.
func TestStatesComeAgain(t *testing.T) {
	seen := map[string]state.State{}
	w := walk{t: t}
	visit := func() {
		t.Helper()
		w.look()
		if other, there := seen[Export(w.s)]; there && !same(other, w.s) {
			t.Errorf("%v and %v have the same bytes", other, w.s)
		}
		seen[Export(w.s)] = kept(w.s)
	}
	var step func(depth int)
	step = func(depth int) {
		if visit(); depth == 0 {
			return
		}
		at := w
		for _, r := range []api.Request{{Client: 0, Seq: 1, Leaf: "a"}, {Client: 0, Seq: 2, Leaf: "a"}, {Client: 1, Seq: 1, Leaf: "a", Key: "k"}} {
			w.ask(r)
			step(depth - 1)
			w = at
		}
		for _, now := range []int{0, 5} {
			w.cut(now)
			step(depth - 1)
			w = at
		}
	}
	step(5)
	if len(seen) < 50 {
		t.Errorf("%d states", len(seen))
	}
}

// TestImportedIsExported writes what was imported, and imports that again.
func TestImportedIsExported(t *testing.T) {
	for what, x := range samples() {
		b := x.bytes()
		for range 3 {
			s, e := Import(table, b)
			if e != api.OK || !same(s, x.state()) {
				t.Fatalf("%s: %v, %v", what, s, e)
			}
			if b = Export(s); b != x.bytes() {
				t.Fatalf("%s: %q", what, b)
			}
		}
	}
}

// The tests of R5 and R7: what is handed in stays, and what is answered is new memory.

func TestWhatIsHandedInStays(t *testing.T) {
	x := record{turns(12), []piece{{2, 1}, {7, 1}, {9, 8}}}
	extra, extraHead := api.Request{Leaf: "spare"}, api.Head{Seq: -1}
	for _, wrong := range []bool{false, true} {
		l := append(slices.Clone(x.l), extra, extra)
		heads := append(x.apiHeads(), extraHead, extraHead)
		if wrong {
			l[11] = l[10]
		}
		before, beforeHeads := slices.Clone(l), slices.Clone(heads)
		s, e := Prefix(table, l[:12], heads[:3])
		if (e != api.OK) != wrong || !slices.Equal(l, before) || !slices.Equal(heads, beforeHeads) {
			t.Errorf("%v: %v, %v", e, l, heads)
		}
		if wrong {
			continue
		}
		spoil(s)
		if !slices.Equal(l, before) || !slices.Equal(heads, beforeHeads) {
			t.Errorf("what is answered is what was handed in: %v, %v", l, heads)
		}
		s, _ = Prefix(table, l[:12], heads[:3])
		clear(l)
		clear(heads)
		if !same(s, x.state()) {
			t.Errorf("what was handed in is kept: %v", s)
		}
	}
}

// spoil changes all that a state has, and puts something into the spare room of its lists.
func spoil(s state.State) {
	for i := range s.Requests {
		s.Requests[i] = api.Request{Leaf: "spoilt"}
	}
	for i := range s.Heads {
		s.Heads[i] = api.Head{Seq: -7}
	}
	_ = append(s.Requests, api.Request{Leaf: "spoilt"})
	_ = append(s.Heads, api.Head{Seq: -7})
}

func TestExportLeavesSpareRoom(t *testing.T) {
	x := record{turns(12), []piece{{2, 1}, {7, 1}}}
	s := x.state()
	requests := append(slices.Clone(s.Requests), api.Request{Leaf: "spare"})
	heads := append(slices.Clone(s.Heads), api.Head{Seq: -1})
	s.Requests, s.Heads = requests[:12], heads[:2]
	if b := Export(s); b != x.bytes() {
		t.Errorf("%q", b)
	}
	if requests[12] != (api.Request{Leaf: "spare"}) || heads[2] != (api.Head{Seq: -1}) || !same(s, x.state()) {
		t.Errorf("%v, %v", requests, heads)
	}
}

// TestStatesDoNotHangTogether has several of one text, and spoils some.
func TestStatesDoNotHangTogether(t *testing.T) {
	x := samples()["several"]
	b := x.bytes()
	first, _ := Import(table, b)
	second, _ := Import(table, b)
	spoil(first)
	if !same(second, x.state()) {
		t.Errorf("%v", second)
	}
	if third, e := Import(table, b); e != api.OK || !same(third, x.state()) {
		t.Errorf("%v, %v", third, e)
	}
	left, _ := second.Apply(request(0, 90))
	right, _ := second.Apply(request(1, 91))
	if left.Requests[5] != request(0, 90) || right.Requests[5] != request(1, 91) || !same(second, x.state()) {
		t.Errorf("%v, %v", left, right)
	}
}

// The tests of R1.

// TestAnyArgumentsEnd has states that no call makes, and a table that isn't Make's: nothing is promised of them but that
// calls end.
func TestAnyArgumentsEnd(t *testing.T) {
	wrong := api.Request{Client: -5, Seq: -5, Key: strings.Repeat("k", 300), Value: "v"}
	for _, s := range []state.State{
		{Requests: make([]api.Request, 70), Heads: make([]api.Head, 70)},
		{Requests: []api.Request{wrong, wrong}, Heads: []api.Head{{Seq: -1, Size: -1, Time: -1}}},
		{Requests: make([]api.Request, 2000), Heads: []api.Head{{Size: math.MaxInt, Time: math.MinInt}}},
		{Clients: [4]state.Last{{Seq: 1, Count: 1}}},
	} {
		b := Export(s)
		Import(table, b)
		Import(sha.Table{}, b)
		Prefix(table, s.Requests, s.Heads)
		Prefix(sha.Table{}, s.Requests, s.Heads)
	}
	x := samples()["several"]
	Import(sha.Table{}, x.bytes())
	Prefix(sha.Table{}, x.l, x.apiHeads())
	random := rand.New(rand.NewPCG(12, 9))
	for range 3000 {
		b := []byte(emptyBytes)
		for range random.IntN(60) {
			b = append(b, byte(random.IntN(256))>>(random.IntN(2)*random.IntN(9)))
		}
		if random.IntN(2) == 0 {
			b = b[1+random.IntN(len(b)):]
		}
		lookAtBytes(t, string(b))
	}
}

// FuzzImport holds whatever is read against what the words say.
func FuzzImport(f *testing.F) {
	for _, x := range samples() {
		f.Add(x.bytes())
	}
	f.Fuzz(func(t *testing.T, b string) {
		lookAtBytes(t, b)
	})
}

// FuzzScript reads a script off bytes, and looks at its state.
func FuzzScript(f *testing.F) {
	f.Add([]byte{})
	f.Add([]byte{0, 1, 4, 2, 255, 7, 0, 1, 255, 3, 8, 9})
	f.Fuzz(func(t *testing.T, b []byte) {
		w := walk{t: t}
		for len(b) >= 2 && len(w.s.Heads) < 8 {
			if x, n := b[0], int(int8(b[1])); x == 255 {
				w.cut(n)
			} else {
				w.ask(request(int(x%5), int(x/5)+n))
			}
			b = b[2:]
		}
		w.lookWhole()
	})
}

func BenchmarkImport(b *testing.B) {
	x := record{many(), []piece{{1, 12}, {8, 12}, {33, 13}, {63, 14}, {64, 15}}}.bytes()
	for b.Loop() {
		Import(table, x)
	}
}
