package merkle

import (
	"annalist/api"
	"annalist/sha"
)

// Included tells whether the proof shows that the leaf's hash is the one i of n under the root.
func Included(t sha.Table, leaf api.Hash, i, n int, proof []api.Hash, root api.Hash) bool {
	if i < 0 || i >= n || n > api.MaxLog {
		return false
	}
	made, ok := rebuild(t, leaf, i, n, proof)
	return ok && made == root
}

// Consistent tells whether the proof shows that m leaves under the root first are the beginning of n under second.
func Consistent(t sha.Table, m, n int, first, second api.Hash, proof []api.Hash) bool {
	if m < 1 || m > n || n > api.MaxLog {
		return false
	}
	a, b, ok := rebuildBoth(t, m, n, first, true, proof)
	return ok && a == first && b == second
}

// rebuild answers the root that the proof makes of the leaf i of n, and whether it has just as many hashes as it takes.
func rebuild(t sha.Table, leaf api.Hash, i, n int, proof []api.Hash) (api.Hash, bool) {
	if n == 1 {
		return leaf, len(proof) == 0
	}
	rest, beside, ok := takeEnd(proof)
	if !ok {
		return "", false
	}
	k := parting(n)
	if i < k {
		left, ok := rebuild(t, leaf, i, k, rest)
		return join(t, left, beside), ok
	}
	right, ok := rebuild(t, leaf, i-k, n-k, rest)
	return join(t, beside, right), ok
}

// rebuildBoth answers the roots of the first m, and of all n, that the proof makes, and whether it has just as many
// hashes as it takes. While the n begin where all do, the root of the first m is known: it is first.
func rebuildBoth(t sha.Table, m, n int, first api.Hash, known bool, proof []api.Hash) (api.Hash, api.Hash, bool) {
	if m == n && known {
		return first, first, len(proof) == 0
	}
	rest, end, ok := takeEnd(proof)
	if !ok {
		return "", "", false
	}
	if m == n {
		return end, end, len(rest) == 0
	}
	k := parting(n)
	if m <= k {
		a, b, ok := rebuildBoth(t, m, k, first, known, rest)
		return a, join(t, b, end), ok
	}
	a, b, ok := rebuildBoth(t, m-k, n-k, first, false, rest)
	return join(t, end, a), join(t, end, b), ok
}

// takeEnd answers the proof without its last hash, and that: it stands highest, so it is the first one needed on
// the way down.
func takeEnd(proof []api.Hash) ([]api.Hash, api.Hash, bool) {
	if len(proof) == 0 {
		return nil, "", false
	}
	last := len(proof) - 1
	return proof[:last], proof[last], true
}
