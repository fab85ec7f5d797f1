package smt

import (
	"cmp"
	"slices"
	"sort"

	"annalist/api"
	"annalist/sha"
)

// entry is a key of a map, with its path and its value.
type entry struct {
	path       api.Hash
	key, value string
}

// entries answers those of the map, in order.
func entries(t sha.Table, m Map) []entry {
	var l []entry
	for key, value := range m {
		l = append(l, entry{pathOf(t, key), key, value})
	}
	slices.SortFunc(l, order)
	return l
}

// order puts entries that begin with the same bits side by side, and of one path's keys the first by its bytes first:
// that one's value stands for all of them.
func order(a, b entry) int {
	return cmp.Or(cmp.Compare(a.path, b.path), cmp.Compare(a.key, b.key))
}

// pathOf answers the key's path, eight bits a byte.
func pathOf(t sha.Table, key string) api.Hash {
	return sha.Sum(t, pathMark+key)
}

// bitAt answers the function that tells of 32 bytes whether their bit i is 1, each byte's highest counted first.
func bitAt(i int) func(b string) bool {
	return func(b string) bool {
		return b[i/8]&mask(i) != 0
	}
}

// mask answers the byte in which only the bit i, of the byte that has it, is 1.
func mask(i int) byte {
	return 0x80 >> (i % 8)
}

// part answers those entries of whose paths the function says no, and the others. In order, the others are all behind.
func part(l []entry, right func(path string) bool) ([]entry, []entry) {
	k := sort.Search(len(l), func(i int) bool { return right(l[i].path) })
	return l[:k], l[k:]
}
