// Package look reads the nodes and cells of proper states, for the layers that
// say what a trie is in a state. It does not ask whether a state is proper,
// since this takes as long as the state is large: a caller asks once. For other
// states the results mean nothing.
package look

import (
	"ctrie/api"
	"ctrie/node"
)

// Node returns a node of a state, or the zero node if there is none with this
// number.
func Node(s api.State, r api.Ref) api.Node {
	if r < 1 || int(r) > len(s.Nodes) {
		return api.Node{}
	}
	return node.Clone(s.Nodes[r-1])
}

// Contents returns the contents of a cell of a state, or 0 if there is no such
// cell.
func Contents(s api.State, c api.Cell) api.Ref {
	if c < 1 || int(c) > len(s.Cells) {
		return 0
	}
	return s.Cells[c-1]
}

// Root returns the root of a trie in a state, or 0 and false if there is none.
func Root(s api.State, t api.Trie) (api.Ref, bool) {
	r := Contents(s, t.Root)
	if d := Node(s, r); d.Kind == api.KindDesc {
		r = d.Old
		if Contents(s, d.Status) == api.Yes {
			r = d.New
		}
	}
	if Node(s, r).Kind != api.KindI {
		return 0, false
	}
	return r, true
}

// Main returns the main node of an I-node in a state, or 0 and false if there is
// none.
func Main(s api.State, in api.Ref) (api.Ref, bool) {
	inner := Node(s, in)
	if inner.Kind != api.KindI {
		return 0, false
	}
	m := Contents(s, inner.Main)
	// What is no main node has no Prev, and so it stays m.
	if prev := Contents(s, Node(s, m).Prev); prev != 0 {
		m = replaced(s, prev)
	}
	if !node.Main(Node(s, m)) {
		return 0, false
	}
	return m, true
}

// replaced returns what a main node was to replace, where its Prev contains
// prev: it is not committed, or it never will be, and then prev is a marker.
func replaced(s api.State, prev api.Ref) api.Ref {
	if marker := Node(s, prev); marker.Kind == api.KindFailed {
		return marker.Old
	}
	return prev
}
