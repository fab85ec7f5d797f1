package smt

import (
	"math/bits"
	"slices"
	"strings"

	"annalist/api"
	"annalist/sha"
)

// Prove answers the proof of the key, be it in the map or not.
func Prove(t sha.Table, m Map, key string) string {
	return plant(t).prove(pathOf(t, key), entries(t, m))
}

// prove answers the proof of the path among entries in order.
func (t *tree) prove(path string, mine []entry) string {
	var flags [api.HashSize]byte
	var roots strings.Builder
	for i := range deepest {
		along, others := follow(mine, path, i)
		if beside := t.root(i+1, others); beside != t.empty[i+1] {
			flags[i/8] |= mask(i)
			roots.WriteString(beside)
		}
		mine = along
	}
	return string(flags[:]) + roots.String()
}

// follow answers the entries that go the path's way at its bit i, and those that go the other one.
func follow(l []entry, path string, i int) ([]entry, []entry) {
	left, right := part(l, bitAt(i))
	if bitAt(i)(path) {
		return right, left
	}
	return left, right
}

// Verify tells whether the proof shows, under the root, that the key has the value, or, if it isn't there, has none.
func Verify(t sha.Table, root api.Hash, key, value string, there bool, proof string) bool {
	if !wellFormed(proof) {
		return false
	}
	made := plant(t)
	own := made.empty[deepest]
	if there {
		own = made.value(key, value)
	}
	return made.climb(pathOf(t, key), own, made.unfold(proof)) == root
}

// wellFormed tells whether the proof has its 256 bits, and just as many roots as they tell.
func wellFormed(proof string) bool {
	if len(proof) < api.HashSize {
		return false
	}
	told := 0
	for i := range api.HashSize {
		told += bits.OnesCount8(proof[i])
	}
	return len(proof) == (1+told)*api.HashSize
}

// unfold answers the roots beside the path, from the first depth on, with the empty ones that the proof only tells of.
func (t *tree) unfold(proof string) []api.Hash {
	flags, roots := proof[:api.HashSize], proof[api.HashSize:]
	var beside []api.Hash
	for i := range deepest {
		if bitAt(i)(flags) {
			beside = append(beside, roots[:api.HashSize])
			roots = roots[api.HashSize:]
		} else {
			beside = append(beside, t.empty[i+1])
		}
	}
	return beside
}

// climb answers the root to which the path leads up from its own place, with those beside it.
func (t *tree) climb(path string, node api.Hash, beside []api.Hash) api.Hash {
	for i, other := range slices.Backward(beside) {
		if bitAt(i)(path) {
			node = t.join(other, node)
		} else {
			node = t.join(node, other)
		}
	}
	return node
}
