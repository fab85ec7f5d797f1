package export

import (
	"annalist/api"
	"annalist/wire"
)

// numberSize is how many bytes a number has, letterSize how many are ahead of all others in a state's, and in a list's.
const (
	numberSize = 4
	letterSize = len(letter)
)

// read answers the requests that b tells, and the heads' sizes and times, and whether there are such lists.
// What else may be wrong with b isn't asked here: what is made of it isn't written as b then.
func read(b string) (l []api.Request, heads []api.Head, ok bool) {
	_, lists := cut(b, letterSize)
	first, second := cutList(lists)
	requests, e := wire.ReadList(first)
	if e != api.OK {
		return nil, nil, false
	}
	pieces, e := wire.ReadList(second)
	if e != api.OK {
		return nil, nil, false
	}
	for _, text := range requests {
		r, e := wire.ReadRequest(text)
		if e != api.OK {
			return nil, nil, false
		}
		l = append(l, r)
	}
	for _, piece := range pieces {
		size, time := cut(piece, numberSize)
		heads = append(heads, api.Head{Size: number(size), Time: number(time)})
	}
	return l, heads, true
}

// cutList cuts off the list that b begins with, as the lengths in it tell; all of b, if they lead beyond it.
// Whether that is a list isn't asked here.
func cutList(b string) (list, rest string) {
	_, rest = cut(b, letterSize)
	count, rest := cut(rest, numberSize)
	for left := number(count); left > 0 && rest != ""; left-- {
		length, behind := cut(rest, numberSize)
		_, rest = cut(behind, number(length))
	}
	return b[:len(b)-len(rest)], rest
}

// cut answers the first n bytes of b, or all, if there are fewer, and those behind them.
func cut(b string, n int) (front, rest string) {
	n = min(n, len(b))
	return b[:n], b[n:]
}

// number answers the number whose bytes are b, even one that is too great to have bytes of its own.
func number(b string) int {
	n := 0
	for _, x := range []byte(b) {
		n = n<<8 | int(x)
	}
	return n
}
