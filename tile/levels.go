package tile

import (
	"iter"

	"annalist/api"
)

// levels climbs from the leaves' level up, and tells of each one how many hashes it has, as long as it has any.
// Of a size that no log has there are none.
func levels(n int) iter.Seq2[int, int] {
	return func(yield func(level, count int) bool) {
		if n > api.MaxLog {
			return
		}
		for level, count := 0, n; count > 0; level, count = level+1, count/api.TileLeaves {
			if !yield(level, count) {
				return
			}
		}
	}
}

// row answers the tiles of a level that has so many hashes.
func row(level, count int) []ID {
	var l []ID
	for index := range tiles(count) {
		l = append(l, ID{Level: level, Index: index})
	}
	return l
}

// tiles answers how many tiles so many hashes make.
func tiles(count int) int {
	return (count + api.TileLeaves - 1) / api.TileLeaves
}

// leaves answers how many leaves are under one hash of a level that has one.
func leaves(level int) int {
	size := 1
	for range level {
		size *= api.TileLeaves
	}
	return size
}
