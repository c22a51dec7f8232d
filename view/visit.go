package view

import (
	"ctrie/api"
	"ctrie/look"
)

// traversal is a traversal of a trie in a proper state.
type traversal struct {
	state api.State
	// seen tells which nodes are I-nodes that have been visited: the limit of
	// levels alone would let I-nodes below themselves be visited far too often.
	seen    map[api.Ref]bool
	visited []api.Ref
}

// visit returns the I-nodes of a trie, its singles, its tombs and its collision
// lists, in the order of the traversal.
func visit(s api.State, t api.Trie) ([]api.Ref, api.Errno) {
	if !proper(s) {
		return nil, api.ErrInvalid
	}
	r, ok := look.Root(s, t)
	if !ok {
		return nil, api.ErrInvalid
	}
	v := traversal{state: s, seen: map[api.Ref]bool{}}
	if !v.below(r, 0) {
		return nil, api.ErrInvalid
	}
	return v.visited, api.OK
}

// below visits the trie below an I-node of a level, and tells whether all of it
// can be visited.
func (v *traversal) below(in api.Ref, level int) bool {
	if level > api.MaxLevel || v.seen[in] {
		return false
	}
	v.seen[in] = true
	m, ok := look.Main(v.state, in)
	if !ok {
		return false
	}
	v.visited = append(v.visited, in)
	n := look.Node(v.state, m)
	if n.Kind != api.KindC {
		v.visited = append(v.visited, m)
		return true
	}
	// The branches of a C-node are listed in the order of their indices.
	for _, b := range n.Branches {
		if !v.branch(b, level) {
			return false
		}
	}
	return true
}

// branch visits a branch of the main node of an I-node of a level, and tells
// whether it, and all below it, can be visited.
func (v *traversal) branch(b api.Ref, level int) bool {
	switch look.Node(v.state, b).Kind {
	case api.KindS:
		v.visited = append(v.visited, b)
		return true
	case api.KindI:
		return v.below(b, level+1)
	}
	return false
}
