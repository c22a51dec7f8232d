package look_test

import (
	"math"
	"testing"

	"ctrie/api"
	"ctrie/arena"
	"ctrie/look"
	"ctrie/node"
)

// sample returns the state of an arena with nodes of all kinds. The single is node 3, the C-node 4, the I-node 5, the
// collision list 6, which is to replace the C-node, the failed marker 7, and the descriptor 8. The last cell, 5, is that
// of a trie with the root 5.
func sample() api.State {
	a := arena.New()
	s := a.Alloc(node.Single(1, "a", 1), 0)
	c := a.Alloc(api.Node{Kind: api.KindC, Bitmap: 2, Branches: []api.Ref{s}}, 0)
	in := a.Alloc(node.Inner(a.NewGen()), c)
	l := a.Alloc(node.List(1, []api.Pair{{Key: "a"}, {Key: "b"}}), c)
	a.Alloc(node.Failed(c), 0)
	a.Alloc(node.Desc(in, l, 3), 0)
	a.NewCell(in)
	return a.State()
}

// Every number of a node and of a cell, and numbers that there are not.
func TestNodeAndContents(t *testing.T) {
	s := sample()
	kinds := []int{0, api.KindMark, api.KindMark, api.KindS, api.KindC, api.KindI, api.KindL, api.KindFailed, api.KindDesc, 0, 0}
	for r, kind := range kinds {
		n := look.Node(s, api.Ref(r))
		if n.Kind != kind || kind != 0 && !node.Equal(n, s.Nodes[r-1]) {
			t.Errorf("node %d is %+v", r, n)
		}
	}
	for c, want := range []api.Ref{0, 0, 4, 4, 0, 5, 0, 0} {
		if r := look.Contents(s, api.Cell(c)); r != want {
			t.Errorf("cell %d contains %d, want %d", c, r, want)
		}
	}
	for _, i := range []int{math.MinInt, -1, 100, math.MaxInt} {
		if n := look.Node(s, api.Ref(i)); !node.Equal(n, api.Node{}) {
			t.Errorf("node %d is %+v", i, n)
		}
		if r := look.Contents(s, api.Cell(i)); r != 0 {
			t.Errorf("cell %d contains %d", i, r)
		}
	}
}

// A node shares no memory with the state.
func TestNodeIsNew(t *testing.T) {
	s := sample()
	look.Node(s, 4).Branches[0] = 1
	look.Node(s, 6).Pairs[0].Key = "changed"
	if s.Nodes[3].Branches[0] != 3 || s.Nodes[5].Pairs[0].Key != "a" {
		t.Errorf("the state is changed to %+v", s)
	}
}

// The root of a trie is the I-node, or what a descriptor says.
func TestRoot(t *testing.T) {
	const trie, status = 5, 4
	for _, c := range []struct{ contents, status, want api.Ref }{
		{5, 0, 5}, {8, 0, 5}, {8, api.No, 5}, {8, api.Yes, 0}, {8, 5, 5}, {0, 0, 0}, {4, 0, 0}, {7, 0, 0},
	} {
		s := sample()
		s.Cells[trie-1], s.Cells[status-1] = c.contents, c.status
		if r, ok := look.Root(s, api.Trie{Root: trie}); r != c.want || ok != (c.want != 0) {
			t.Errorf("%+v: the root is %d, %v", c, r, ok)
		}
	}
}

// The main node of an I-node is what its cell contains, if it is committed, and what this is to replace otherwise.
func TestMain(t *testing.T) {
	const main, prev = 2, 3
	for _, c := range []struct{ contents, prev, want api.Ref }{
		{4, 0, 4}, {6, 0, 6}, {6, 4, 4}, {6, 7, 4}, {6, 6, 6}, {6, 5, 0}, {6, 8, 0}, {0, 0, 0}, {3, 0, 0}, {7, 0, 0}, {8, 0, 0},
	} {
		s := sample()
		s.Cells[main-1], s.Cells[prev-1] = c.contents, c.prev
		if m, ok := look.Main(s, 5); m != c.want || ok != (c.want != 0) {
			t.Errorf("%+v: the main node is %d, %v", c, m, ok)
		}
	}
	for _, in := range []api.Ref{-1, 0, 1, 3, 4, 6, 7, 8, 9} {
		if m, ok := look.Main(sample(), in); m != 0 || ok {
			t.Errorf("the main node of %d is %d, %v", in, m, ok)
		}
	}
}

// States that are not proper do not make anything panic.
func TestImproperStates(t *testing.T) {
	for _, s := range []api.State{
		{},
		{Cells: []api.Ref{-1, 7}},
		{Nodes: []api.Node{{Kind: api.KindI, Main: -1}, {Kind: api.KindI, Main: 9}, {Kind: api.KindDesc, Old: 9, Status: -9}}, Cells: []api.Ref{3, 1, 2}},
		{Nodes: []api.Node{{Kind: api.KindI, Main: 1}, {Kind: api.KindC, Prev: 2}, {Kind: api.KindFailed, Old: -3}}, Cells: []api.Ref{2, 3}},
	} {
		for i := -1; i <= 10; i++ {
			look.Node(s, api.Ref(i))
			look.Contents(s, api.Cell(i))
			look.Root(s, api.Trie{Root: api.Cell(i)})
			look.Main(s, api.Ref(i))
		}
	}
}
