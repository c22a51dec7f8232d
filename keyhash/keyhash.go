// Package keyhash is layer 1: hash values of keys. See shared/doc/01-keyhash.md.
package keyhash

import "ctrie/api"

// The parameters of FNV-1a with 64 bits.
const (
	fnvOffset = 14695981039346656037
	fnvPrime  = 1099511628211
)

// The slices of a hash value. An I-node of level MaxLevel has no slice of its
// own, so that there are as many slices as levels below it.
const (
	sliceBits = 6
	sliceMask = 1<<sliceBits - 1
	levels    = api.MaxLevel
)

// Valid reports whether a key is valid.
func Valid(key string) bool {
	return len(key) <= api.MaxKey
}

// Hash returns the hash value of a key for a mask.
func Hash(key string, mask uint64) uint64 {
	h := uint64(fnvOffset)
	for i := range len(key) {
		h ^= uint64(key[i])
		h *= fnvPrime
	}
	return h & mask
}

// Slice returns the slice of a level, and 0 for a level that has none.
func Slice(hash uint64, level int) int {
	if level < 0 || level >= levels {
		return 0
	}
	return int(hash >> (sliceBits * level) & sliceMask)
}

// Less reports whether a hash value with its key comes before another one.
func Less(h uint64, a string, k uint64, b string) bool {
	level := Common(h, k)
	if level == levels {
		return a < b
	}
	return Slice(h, level) < Slice(k, level)
}

// Common returns the number of levels from 0 on whose slices are equal.
func Common(h, k uint64) int {
	for level := range levels {
		if Slice(h, level) != Slice(k, level) {
			return level
		}
	}
	return levels
}
