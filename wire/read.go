package wire

import (
	"annalist/api"
)

// numberSize is how many bytes a number has, maxTexts how many texts a list that is read may have.
const (
	numberSize = 4
	maxTexts   = 1000
)

// ReadRequest answers the right request whose bytes are b.
//
// Here, and in the other calls that read, the parts are cut off whatever b is, and what they make is written again:
// so one question, whether that is b, stands for each way in which b may be nothing's.
func ReadRequest(b string) (api.Request, api.Errno) {
	cut := cutter(b)
	cut(len(requestLetter))
	var r api.Request
	r.Client = cutNumber(cut)
	r.Seq = cutNumber(cut)
	r.Leaf = cutText(cut)
	r.Key = cutText(cut)
	r.Value = cutText(cut)
	if !Right(r) || Request(r) != b {
		return api.Request{}, api.ErrForm
	}
	return r, api.OK
}

// ReadHead answers the head whose roots are of 32 bytes and whose bytes are b.
func ReadHead(b string) (api.Head, api.Errno) {
	cut := cutter(b)
	cut(len(headLetter))
	var h api.Head
	h.Seq = cutNumber(cut)
	h.Size = cutNumber(cut)
	h.Time = cutNumber(cut)
	h.Root = cut(api.HashSize)
	h.Map = cut(api.HashSize)
	if len(h.Root) != api.HashSize || len(h.Map) != api.HashSize || Head(h) != b {
		return api.Head{}, api.ErrForm
	}
	return h, api.OK
}

// ReadList answers the list, of at most 1000 texts, whose bytes are b.
func ReadList(b string) ([]string, api.Errno) {
	cut := cutter(b)
	cut(len(listLetter))
	count := cutNumber(cut)
	if count > maxTexts {
		return nil, api.ErrForm
	}
	var l []string
	for range count {
		l = append(l, cutText(cut))
	}
	if List(l) != b {
		return nil, api.ErrForm
	}
	return l, api.OK
}

// cutter answers a closure over the bytes of b that are not read yet, which cuts off the next n of them.
// Where there are fewer than n it cuts off none.
func cutter(b string) func(n int) string {
	return func(n int) string {
		if n < 0 || n > len(b) {
			return ""
		}
		front := b[:n]
		b = b[n:]
		return front
	}
}

// cutNumber cuts off four bytes and answers their number, even one that is too great to have bytes of its own.
func cutNumber(cut func(n int) string) int {
	n := 0
	for _, x := range []byte(cut(numberSize)) {
		n = n<<8 | int(x)
	}
	return n
}

// cutText cuts off a length and as many bytes, and answers these.
func cutText(cut func(n int) string) string {
	return cut(cutNumber(cut))
}
