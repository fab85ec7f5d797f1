package collide

import (
	"math/bits"
	"slices"

	"annalist/api"
)

// Leaves and nodes are told of behind unlike bytes, so that no leaf can be shown in the place of a node.
const (
	leafMark = "\x00"
	nodeMark = "\x01"
)

// maxSize is how many leaves a tree has at most.
const maxSize = 1 << 20

// parting answers how many of n leaves, two or more, are in the left part: the greatest power of two below n.
func parting(n int) int {
	return 1 << (bits.Len(uint(n-1)) - 1)
}

// part answers whether the leaf i of n is in the right part, and its place and the number of leaves there.
func part(i, n int) (right bool, place, size int) {
	k := parting(n)
	if i < k {
		return false, i, k
	}
	return true, i - k, n - k
}

// wayToLeaf tells where the way from the root of n leaves to the leaf i goes right, from its lower end up: a proof stands in that order.
func wayToLeaf(i, n int) []bool {
	var way []bool
	for n > 1 {
		var right bool
		right, i, n = part(i, n)
		way = append(way, right)
	}
	slices.Reverse(way)
	return way
}

// wayToEnd tells it of the way to the end of the first m: it is over where all are among them.
func wayToEnd(m, n int) []bool {
	var way []bool
	last := m - 1
	for last < n-1 {
		var right bool
		right, last, n = part(last, n)
		way = append(way, right)
	}
	slices.Reverse(way)
	return way
}

// node answers the text of the node with what was made and its neighbour in a proof as its parts' roots.
func node(right bool, made, neighbour string) string {
	if right {
		return nodeMark + neighbour + made
	}
	return nodeMark + made + neighbour
}

// areHashes tells whether the proof has just as many hashes, of their length each.
func areHashes(proof []string, count int) bool {
	if len(proof) != count {
		return false
	}
	return !slices.ContainsFunc(proof, func(p string) bool { return len(p) != api.HashSize })
}

// openClaim answers the nodes that the claim opens, from the root down to the leaf; none, if it can hold under no root.
func openClaim(h Hasher, c Claim) []string {
	if h == nil || c.Size < 1 || c.Size > maxSize || c.Index < 0 || c.Index >= c.Size {
		return nil
	}
	way := wayToLeaf(c.Index, c.Size)
	if !areHashes(c.Proof, len(way)) {
		return nil
	}
	nodes := []string{leafMark + c.Leaf}
	for i, right := range way {
		nodes = append(nodes, node(right, h(nodes[i]), c.Proof[i]))
	}
	slices.Reverse(nodes)
	return nodes
}

// A growth is what a consistency proof makes: both roots, and the nodes that it opens under the first and the second one, from the root down.
type growth struct {
	first, second string
	early, late   []string
}

// openGrowth answers what the consistency proof of the first m of n makes, and whether it can be one.
func openGrowth(h Hasher, m, n int, first string, proof []string) (growth, bool) {
	if h == nil || m < 1 || m > n || n > maxSize || len(first) != api.HashSize {
		return growth{}, false
	}
	way := wayToEnd(m, n)
	if !slices.Contains(way, true) {
		// The first ones are just what is at the way's lower end: a proof leaves out their root, which is known.
		proof = slices.Concat([]string{first}, proof)
	}
	if !areHashes(proof, len(way)+1) {
		return growth{}, false
	}
	return grow(h, way, proof[0], proof[1:]), true
}

// grow makes both roots from what is at the lower end of the way. Only where it goes right are there more of the first ones beside it.
func grow(h Hasher, way []bool, low string, proof []string) growth {
	g := growth{first: low, second: low}
	for i, right := range way {
		if right {
			g.early = append(g.early, node(right, g.first, proof[i]))
			g.first = h(g.early[len(g.early)-1])
		}
		g.late = append(g.late, node(right, g.second, proof[i]))
		g.second = h(g.late[i])
	}
	slices.Reverse(g.early)
	slices.Reverse(g.late)
	return g
}
