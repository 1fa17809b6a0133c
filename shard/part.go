package shard

import (
	"iter"

	"kiosk/api"
)

// placed goes through feeds, each behind its shard: whoever needs the shards
// works out each of them once.
func placed(l []string) iter.Seq2[int, string] {
	return func(yield func(int, string) bool) {
		for _, s := range l {
			if !yield(Of(s), s) {
				return
			}
		}
	}
}

// Part are those of a shard, Parts all shards.
func Part(l []string, shard int) []string {
	var part []string
	for n, s := range placed(l) {
		if n == shard {
			part = append(part, s)
		}
	}
	return part
}

func Parts(l []string) [][]string {
	parts := make([][]string, api.Shards)
	for n, s := range placed(l) {
		parts[n] = append(parts[n], s)
	}
	return parts
}
