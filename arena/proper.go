package arena

import (
	"slices"

	"ctrie/api"
	"ctrie/node"
)

// proper tells whether s could be the state of an arena.
func proper(s api.State) bool {
	return marked(s) && nodesProper(s) && refsExist(s) && cellsOwned(s)
}

// marked tells whether the nodes Yes and No of s are as in every arena.
func marked(s api.State) bool {
	if len(s.Nodes) < int(api.No) {
		return false
	}
	return s.Nodes[api.Yes-1].Kind == api.KindMark && s.Nodes[api.No-1].Kind == api.KindMark
}

// nodesProper tells whether every node of s is valid, and of a generation that
// has begun. Marks have 0 in the place of a generation, so no state with marks
// passes whose latest generation is below 0.
func nodesProper(s api.State) bool {
	for _, n := range s.Nodes {
		if !node.Valid(n) || n.Gen > s.Gen {
			return false
		}
	}
	return true
}

// refsExist tells whether every Ref in a node or a cell of s is 0 or a node of s.
func refsExist(s api.State) bool {
	missing := func(r api.Ref) bool {
		return r < 0 || int(r) > len(s.Nodes)
	}
	for _, n := range s.Nodes {
		if missing(n.Old) || missing(n.Expected) || missing(n.New) || slices.ContainsFunc(n.Branches, missing) {
			return false
		}
	}
	return !slices.ContainsFunc(s.Cells, missing)
}

// cellsOwned tells whether every node of s whose kind has a cell names a cell of
// s that no other node names.
func cellsOwned(s api.State) bool {
	owned := make([]bool, len(s.Cells))
	for _, n := range s.Nodes {
		own := ownCell(&n)
		if own == nil {
			continue
		}
		if !hasCell(s, *own) || owned[*own-1] {
			return false
		}
		owned[*own-1] = true
	}
	return true
}
