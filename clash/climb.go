package clash

import (
	"math/bits"
	"slices"

	"annalist/api"
	"annalist/collide"
)

// Layer 5's letters: each kind of thing is told of behind one of its own, so that none can be shown in the place of another one.
const (
	pathMark  = "K"
	emptyMark = "E"
	valueMark = "V"
	nodeMark  = "N"
)

// deepest is the depth at which each path has a place of its own.
const deepest = 8 * api.HashSize

// longest is how many bytes a key, and a value, has at most: a key's length is told in one.
const longest = 255

// A step is a text on the way from a key's own place up to the root, and what the hasher tells of it.
type step struct{ text, told string }

// climb answers the way of the answer for the key, from the key's own place up; none, if it can hold under no root.
// What tells other than 32 bytes is no hasher, and is asked no further: its empty roots might be twice as long at each depth.
func climb(h collide.Hasher, key string, a Answer) []step {
	if !mayHold(key, a) {
		return nil
	}
	path := Path(h, key)
	if !areHashes(path) {
		return nil
	}
	flags, roots := a.Proof[:api.HashSize], a.Proof[api.HashSize:]
	way, empty := []step{ask(h, own(key, a))}, h(emptyMark)
	for i := deepest - 1; i >= 0 && areHashes(top(way), empty); i-- {
		beside := empty
		if bitAt(flags, i) {
			ahead := len(roots) - api.HashSize
			roots, beside = roots[:ahead], roots[ahead:]
		}
		way = append(way, ask(h, node(bitAt(path, i), top(way), beside)))
		empty = h(node(false, empty, empty))
	}
	if !areHashes(top(way), empty) {
		return nil
	}
	return way
}

// mayHold tells whether the answer is one that some root can be made of.
func mayHold(key string, a Answer) bool {
	if len(key) > longest || len(a.Value) > longest {
		return false
	}
	if !a.There && a.Value != "" {
		return false
	}
	return wellFormed(a.Proof)
}

// wellFormed tells whether the proof has its 256 bits, and just as many roots as they tell.
func wellFormed(proof string) bool {
	if len(proof) < api.HashSize {
		return false
	}
	count := 0
	for i := range api.HashSize {
		count += bits.OnesCount8(proof[i])
	}
	return len(proof) == (1+count)*api.HashSize
}

// areHashes tells whether each of them is of a hash's length.
func areHashes(l ...string) bool {
	return !slices.ContainsFunc(l, func(s string) bool { return len(s) != api.HashSize })
}

// ask answers the step of the text.
func ask(h collide.Hasher, text string) step {
	return step{text, h(text)}
}

// top answers what the hasher tells of the way's last text.
func top(way []step) string {
	return way[len(way)-1].told
}

// own answers the text at the key's own place.
func own(key string, a Answer) string {
	if !a.There {
		return emptyMark
	}
	length := string([]byte{byte(len(key))})
	return valueMark + length + key + a.Value
}

// node answers the text above the root on the way, which is the right or the left one, and that beside it.
func node(right bool, along, beside string) string {
	if right {
		return nodeMark + beside + along
	}
	return nodeMark + along + beside
}

// bitAt tells whether the bit i of the bytes is 1, each byte's highest counted first.
func bitAt(b string, i int) bool {
	return b[i/8]&(0x80>>(i%8)) != 0
}
