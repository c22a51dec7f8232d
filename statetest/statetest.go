// Package statetest has what the tests of several packages do with states. The
// program itself does not use it.
package statetest

import (
	"slices"

	"ctrie/api"
	"ctrie/node"
)

// outside is the number, and the key, of what is in memory around a list.
const (
	outside    = 77
	outsideKey = "outside"
)

// Copied returns an equal state that shares no memory with s.
func Copied(s api.State) api.State {
	var l []api.Node
	for _, n := range s.Nodes {
		l = append(l, node.Clone(n))
	}
	return api.State{Nodes: l, Cells: slices.Clone(s.Cells), Gen: s.Gen}
}

// Same tells whether two states are equal.
func Same(a, b api.State) bool {
	return a.Gen == b.Gen && slices.Equal(a.Cells, b.Cells) && slices.EqualFunc(a.Nodes, b.Nodes, node.Equal)
}

// Around returns a list in the middle of a longer one, so that it has memory
// behind its last element, and the longer one.
func Around[T any](l []T, other T) (part, whole []T) {
	whole = append([]T{other}, l...)
	whole = slices.Clip(append(whole, other, other, other))
	return whole[1 : 1+len(l)], whole
}

// Roomy returns a state that is equal to s and shares no memory with it, whose
// lists all have memory around them, and all of these lists in another state.
func Roomy(s api.State) (part, whole api.State) {
	var inside, longer []api.Node
	for _, n := range s.Nodes {
		m := n
		n.Branches, m.Branches = Around(n.Branches, outside)
		n.Pairs, m.Pairs = Around(n.Pairs, api.Pair{Key: outsideKey, Value: outside})
		inside, longer = append(inside, n), append(longer, m)
	}
	part.Gen = s.Gen
	part.Cells, whole.Cells = Around(s.Cells, outside)
	part.Nodes, whole.Nodes = Around(inside, api.Node{Kind: outside, Key: outsideKey})
	whole.Nodes = append(slices.Clone(whole.Nodes), longer...)
	return part, whole
}
