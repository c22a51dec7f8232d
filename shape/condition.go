package shape

import (
	"ctrie/api"
	"ctrie/keyhash"
)

// kindFits tells whether condition 1 holds for an I-node: its main node is of a
// kind that there is at its level.
func kindFits(p place) bool {
	switch p.main.Kind {
	case api.KindC:
		return p.level < api.MaxLevel
	case api.KindT:
		return p.level > 0
	}
	return p.level == api.MaxLevel
}

// branchesSuffice tells whether condition 2 holds for an I-node: below the root,
// a C-node has something to branch to that could not stand in its place.
func branchesSuffice(p place) bool {
	if p.main.Kind != api.KindC || p.level == 0 {
		return true
	}
	switch len(p.branches) {
	case 0:
		return false
	case 1:
		return p.branches[0].node.Kind == api.KindI
	}
	return true
}

// hashesFit tells whether condition 3 holds for an I-node: the keys are where
// their hash values lead.
func hashesFit(p place, mask uint64) bool {
	switch p.main.Kind {
	case api.KindT:
		return hashFits(p, p.main.Hash, p.main.Key, mask)
	case api.KindL:
		return listFits(p, mask)
	}
	for _, b := range p.branches {
		if b.node.Kind == api.KindS && !singleFits(p, b, mask) {
			return false
		}
	}
	return true
}

// generationFits tells whether condition 4 holds for an I-node: it is not newer
// than the one above it.
func generationFits(p place) bool {
	return p.gen <= p.above
}

// listFits tells whether condition 3 holds for a collision list.
func listFits(p place, mask uint64) bool {
	for _, pair := range p.main.Pairs {
		if !hashFits(p, p.main.Hash, pair.Key, mask) {
			return false
		}
	}
	return true
}

// singleFits tells whether condition 3 holds for a single.
func singleFits(p place, b branch, mask uint64) bool {
	return hashFits(p, b.node.Hash, b.node.Key, mask) && keyhash.Slice(b.node.Hash, p.level) == b.index
}

// hashFits tells whether hash is the hash value of a key, and has the prefix of
// an I-node.
func hashFits(p place, hash uint64, key string, mask uint64) bool {
	if keyhash.Hash(key, mask) != hash {
		return false
	}
	for level := range p.level {
		if keyhash.Slice(hash, level) != p.prefix[level] {
			return false
		}
	}
	return true
}
