package ots

import (
	"strings"

	"annalist/api"
	"annalist/sha"
	"annalist/wire"
)

// leaf answers the leaf of the key q, of its chains' last values.
func leaf(t sha.Table, q int, values []api.Hash) api.Hash {
	return sha.Sum(t, "p"+wire.Number(q)+strings.Join(values, ""))
}

// leaves answers the leaves of all keys of the seed's signer.
func leaves(t sha.Table, seed string) []api.Hash {
	var all []api.Hash
	for q := range api.Keys {
		var values []api.Hash
		for i := range api.Chains {
			values = append(values, walk(t, q, i, first(t, seed, q, i), 0, steps))
		}
		all = append(all, leaf(t, q, values))
	}
	return all
}

// join answers what a left and a right one make together.
func join(t sha.Table, left, right api.Hash) api.Hash {
	return sha.Sum(t, "t"+left+right)
}

// together answers what the nodes make two by two: the nodes above them.
func together(t sha.Table, nodes []api.Hash) []api.Hash {
	var above []api.Hash
	for i := 0; i+1 < len(nodes); i += 2 {
		above = append(above, join(t, nodes[i], nodes[i+1]))
	}
	return above
}

// path answers, from below, each other one that climb needs on the way up from the leaf q.
func path(t sha.Table, q int, nodes []api.Hash) []api.Hash {
	var others []api.Hash
	for range height {
		others = append(others, nodes[q^1])
		nodes = together(t, nodes)
		q >>= 1
	}
	return others
}

// climb answers where the path leads up to from the node q. The last bit of q tells on which side a node stands,
// and q shifted by it is the place of the node above.
func climb(t sha.Table, q int, node api.Hash, others []api.Hash) api.Hash {
	for _, other := range others {
		if q&1 == 0 {
			node = join(t, node, other)
		} else {
			node = join(t, other, node)
		}
		q >>= 1
	}
	return node
}
