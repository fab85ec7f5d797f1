package merkle

import (
	"annalist/api"
	"annalist/sha"
)

// Inclusion answers the proof that the leaf i is among the leaves.
func Inclusion(t sha.Table, l []api.Hash, i int) ([]api.Hash, api.Errno) {
	if i < 0 || i >= len(l) {
		return nil, api.ErrRange
	}
	return path(t, l, i), api.OK
}

// Consistency answers the proof that the first m leaves are the beginning of all.
func Consistency(t sha.Table, l []api.Hash, m int) ([]api.Hash, api.Errno) {
	if m < 1 || m > len(l) {
		return nil, api.ErrRange
	}
	return sub(t, l, m, true), api.OK
}

// path answers, from below, the roots beside the way to the leaf i.
func path(t sha.Table, l []api.Hash, i int) []api.Hash {
	if len(l) == 1 {
		return nil
	}
	k := parting(len(l))
	if i < k {
		return append(path(t, l[:k], i), Root(t, l[k:]))
	}
	return append(path(t, l[k:], i-k), Root(t, l[:k]))
}

// sub answers the chapter's SUB. Whoever checks knows the first ones' root: it isn't told while these leaves
// begin where all do.
func sub(t sha.Table, l []api.Hash, m int, known bool) []api.Hash {
	if m == len(l) && known {
		return nil
	}
	if m == len(l) {
		return []api.Hash{Root(t, l)}
	}
	k := parting(len(l))
	if m <= k {
		return append(sub(t, l[:k], m, known), Root(t, l[k:]))
	}
	return append(sub(t, l[k:], m-k, false), Root(t, l[:k]))
}
