package arena_test

import (
	"fmt"
	"math"
	"slices"
	"strings"
	"testing"

	"ctrie/api"
	"ctrie/arena"
	"ctrie/node"
)

// properState returns a proper state with nodes of all kinds, of those that have a cell at least one. The cells 4 and 7
// belong to no node.
func properState() api.State {
	return api.State{
		Nodes: []api.Node{
			{Kind: api.KindMark},
			{Kind: api.KindMark},
			{Kind: api.KindC, Bitmap: 1<<63 | 5, Branches: []api.Ref{4, 5, 12}, Prev: 3},
			{Kind: api.KindS, Hash: 5, Key: "key", Value: 7},
			{Kind: api.KindI, Gen: 2, Main: 1},
			{Kind: api.KindT, Hash: 5, Key: "key", Value: 7, Prev: 6},
			{Kind: api.KindL, Hash: 6, Pairs: []api.Pair{{Key: "a", Value: 1}, {Key: "b", Value: 2}}, Prev: 9},
			{Kind: api.KindFailed, Old: 3},
			{Kind: api.KindDesc, Old: 5, Expected: 3, New: 10, Status: 5},
			{Kind: api.KindI, Gen: 3, Main: 8},
			{Kind: api.KindMark},
			{Kind: api.KindC, Prev: 2},
		},
		Cells: []api.Ref{6, 8, 0, 5, 1, 7, 9, 3, 12},
		Gen:   3,
	}
}

// ownCell returns the field with the cell that a node of properState has, or nil.
func ownCell(n *api.Node) *api.Cell {
	for _, c := range []*api.Cell{&n.Main, &n.Prev, &n.Status} {
		if *c != 0 {
			return c
		}
	}
	return nil
}

// nodeRefs returns all fields of a node of properState with Refs.
func nodeRefs(n *api.Node) []*api.Ref {
	var l []*api.Ref
	for i := range n.Branches {
		l = append(l, &n.Branches[i])
	}
	for _, r := range []*api.Ref{&n.Old, &n.Expected, &n.New} {
		if *r != 0 {
			l = append(l, r)
		}
	}
	return l
}

// checkProper reports an error if Of does not return an arena with a state, or State not the state.
func checkProper(t *testing.T, what string, s api.State) {
	t.Helper()
	want := deepCopy(s)
	a, err := arena.Of(s)
	if err != api.OK || a == nil {
		t.Errorf("%s: Of of the proper state %#v returns the error %d", what, s, err)
		return
	}
	checkState(t, what, a, want, 0)
	again, err := arena.Of(a.State())
	if err != api.OK || again == nil {
		t.Errorf("%s: Of of State returns the error %d", what, err)
		return
	}
	checkState(t, what, again, want, 0)
	if r := again.Alloc(node.Inner(1), 2); int(r) != len(want.Nodes)+1 || again.Node(r).Main != api.Cell(len(want.Cells)+1) {
		t.Errorf("%s: after Of, Alloc returns %d, and its Main is %d", what, r, again.Node(r).Main)
	}
	if got := again.NewGen(); want.Gen < math.MaxInt && got != want.Gen+1 {
		t.Errorf("%s: after Of with the generation %d, NewGen returns %d", what, want.Gen, got)
	}
}

// checkImproper reports an error if Of does not refuse a state, or if it changes it.
func checkImproper(t *testing.T, what string, s api.State) {
	t.Helper()
	before := deepCopy(s)
	for range 2 {
		if a, err := arena.Of(s); a != nil || err != api.ErrInvalid {
			t.Errorf("%s: Of returns an arena (%v) and the error %d for %#v", what, a != nil, err, s)
		}
	}
	if !sameState(s, before) {
		t.Errorf("%s: Of changes the state to %#v, from %#v", what, s, before)
	}
}

// P5.1: states with only the marks, with or without cells, and with a generation that no node has.
func TestOfMarks(t *testing.T) {
	for _, cells := range [][]api.Ref{nil, {}, {0}, {1}, {2}, {2, 2, 1, 0, 0}} {
		for _, gen := range []int{0, 1, 2, math.MaxInt} {
			s := deepCopy(markedState)
			s.Cells, s.Gen = cells, gen
			checkProper(t, "marks", s)
		}
	}
	checkProper(t, "State of New", arena.New().State())
}

// P5.1: a state with nodes of all kinds, with greater generations, more nodes, and more cells.
func TestOfAllKinds(t *testing.T) {
	checkProper(t, "all kinds", properState())
	for _, gen := range []int{3, 4, 100, math.MaxInt} {
		s := properState()
		s.Gen = gen
		checkProper(t, "generation", s)
	}
	s := properState()
	s.Nodes = append(s.Nodes, node.Single(9, strings.Repeat("k", api.MaxKey), 0), api.Node{Kind: api.KindI, Gen: 1, Main: 10}, node.Failed(13))
	s.Cells = append(s.Cells, 15, 0)
	checkProper(t, "more of them", s)
	wide := properState()
	wide.Nodes = append(wide.Nodes, api.Node{Kind: api.KindC, Bitmap: math.MaxUint64, Branches: slices.Repeat([]api.Ref{4, 13}, 32), Prev: 7})
	checkProper(t, "64 branches", wide)
}

// P5.1: Refs and cells have every number that exists; Refs also that of their own node, and of later ones.
func TestOfNumbersThatExist(t *testing.T) {
	nodes, cells := len(properState().Nodes), len(properState().Cells)
	for i := range nodes {
		for j := range nodeRefs(&properState().Nodes[i]) {
			for r := api.Ref(1); int(r) <= nodes; r++ {
				s := properState()
				*nodeRefs(&s.Nodes[i])[j] = r
				checkProper(t, "a Ref in a node", s)
			}
		}
		if ownCell(&properState().Nodes[i]) != nil {
			for _, c := range []api.Cell{4, 7} {
				s := properState()
				*ownCell(&s.Nodes[i]) = c
				checkProper(t, "a cell of a node", s)
			}
		}
	}
	for i := range cells {
		for r := api.Ref(0); int(r) <= nodes; r++ {
			s := properState()
			s.Cells[i] = r
			checkProper(t, "a Ref in a cell", s)
		}
	}
}

// P5.1: the generation of the state is that of the newest I-node, or greater.
func TestOfGenerations(t *testing.T) {
	for _, node := range []int{1, 2, 3, math.MaxInt} {
		for _, gen := range []int{math.MinInt, -1, 0, 1, 2, 3, math.MaxInt} {
			for _, place := range []int{2, 3} {
				s := deepCopy(markedState)
				s.Nodes = append(s.Nodes, api.Node{Kind: api.KindI, Gen: 1, Main: 1}, api.Node{Kind: api.KindI, Gen: 1, Main: 2})
				s.Nodes[place].Gen = node
				s.Cells, s.Gen = []api.Ref{0, 0}, gen
				if gen >= node {
					checkProper(t, "generations", s)
				} else {
					checkImproper(t, "generations", s)
				}
			}
		}
	}
}

// P5.1: a generation below 0, without I-nodes.
func TestOfNegativeGeneration(t *testing.T) {
	for _, gen := range []int{-1, -2, math.MinInt} {
		s := deepCopy(markedState)
		s.Gen = gen
		checkImproper(t, "a generation below 0", s)
	}
}

// P5.1: fewer than two nodes.
func TestOfTooFewNodes(t *testing.T) {
	checkImproper(t, "the zero state", api.State{})
	checkImproper(t, "no nodes", api.State{Nodes: []api.Node{}, Cells: []api.Ref{0}, Gen: 1})
	checkImproper(t, "one node", api.State{Nodes: []api.Node{{Kind: api.KindMark}}})
	checkImproper(t, "one node and others behind it", api.State{Nodes: deepCopy(markedState).Nodes[:1], Cells: []api.Ref{1}})
}

// P5.1: one of the first two nodes, or both, is a valid node of another kind.
func TestOfNoMarks(t *testing.T) {
	for _, kind := range kinds()[1:] {
		for place := range 2 {
			s := properState()
			s.Cells = append(s.Cells, 0)
			s.Nodes[place], _ = withCell(valid(kind), api.Cell(len(s.Cells)))
			checkImproper(t, "no mark", s)
		}
	}
	checkImproper(t, "two singles", api.State{Nodes: []api.Node{valid(api.KindS), valid(api.KindS)}})
	last := properState()
	last.Nodes = append(last.Nodes[2:], last.Nodes[:2]...)
	checkImproper(t, "marks at the end", last)
}

// P5.1: a node that is not valid, for each place, in a way of its own and in ways that all kinds share.
func TestOfInvalidNodes(t *testing.T) {
	long := strings.Repeat("k", api.MaxKey+1)
	for i := range properState().Nodes {
		ways := []func(n *api.Node){
			func(n *api.Node) { n.Kind = 0 },
			func(n *api.Node) { n.Kind = -1 },
			func(n *api.Node) { n.Kind = 9 },
			func(n *api.Node) { *n = api.Node{} },
		}
		switch properState().Nodes[i].Kind {
		case api.KindMark:
			ways = append(ways, func(n *api.Node) { n.Gen = 1 }, func(n *api.Node) { n.Main = 4 }, func(n *api.Node) { n.Old = 1 }, func(n *api.Node) { n.Key = "k" })
		case api.KindI:
			ways = append(ways, func(n *api.Node) { n.Gen = 0 }, func(n *api.Node) { n.Gen = -1 }, func(n *api.Node) { n.Prev = 4 }, func(n *api.Node) { n.Old = 1 })
		case api.KindC:
			ways = append(ways, func(n *api.Node) { n.Bitmap ^= 2 }, func(n *api.Node) { n.Branches = append(n.Branches, 1) }, func(n *api.Node) { n.Main = 4 })
		case api.KindS:
			ways = append(ways, func(n *api.Node) { n.Key = long }, func(n *api.Node) { n.Prev = 4 }, func(n *api.Node) { n.Branches = []api.Ref{1} })
		case api.KindT:
			ways = append(ways, func(n *api.Node) { n.Key = long }, func(n *api.Node) { n.Status = 4 }, func(n *api.Node) { n.Gen = 1 })
		case api.KindL:
			ways = append(ways, func(n *api.Node) { n.Pairs = n.Pairs[:1] }, func(n *api.Node) { n.Pairs[1].Key = "a" }, func(n *api.Node) { n.Pairs[1].Key = long }, func(n *api.Node) { n.Key = "k" })
		case api.KindFailed:
			ways = append(ways, func(n *api.Node) { n.Old = 0 }, func(n *api.Node) { n.New = 1 }, func(n *api.Node) { n.Status = 4 })
		case api.KindDesc:
			ways = append(ways, func(n *api.Node) { n.Old = 0 }, func(n *api.Node) { n.Expected = 0 }, func(n *api.Node) { n.New = 0 }, func(n *api.Node) { n.Main = 4 })
		}
		for j, change := range ways {
			s := properState()
			change(&s.Nodes[i])
			checkImproper(t, fmt.Sprintf("node %d not valid in way %d", i+1, j), s)
		}
	}
}

// P5.1: a Ref in a node, or in a cell, is no number of a node.
func TestOfRefsThatDoNotExist(t *testing.T) {
	nodes := api.Ref(len(properState().Nodes))
	for _, r := range []api.Ref{math.MinInt, -nodes, -1, nodes + 1, nodes + 2, math.MaxInt} {
		for i := range properState().Nodes {
			for j := range nodeRefs(&properState().Nodes[i]) {
				s := properState()
				*nodeRefs(&s.Nodes[i])[j] = r
				checkImproper(t, "a Ref in a node", s)
			}
		}
		for i := range properState().Cells {
			s := properState()
			s.Cells[i] = r
			checkImproper(t, "a Ref in a cell", s)
		}
	}
	s := deepCopy(markedState)
	s.Cells = []api.Ref{3}
	checkImproper(t, "the first number that does not exist", s)
}

// P5.1: a node's cell is 0 or no number of a cell, for each kind that has one.
func TestOfCellsThatDoNotExist(t *testing.T) {
	cells := api.Cell(len(properState().Cells))
	for _, c := range []api.Cell{math.MinInt, -cells, -1, 0, cells + 1, cells + 2, math.MaxInt} {
		for i := range properState().Nodes {
			s := properState()
			if own := ownCell(&s.Nodes[i]); own != nil {
				*own = c
				checkImproper(t, "a cell of a node", s)
			}
		}
	}
	for _, kind := range kinds() {
		s := deepCopy(markedState)
		n, hasCell := withCell(valid(kind), 1)
		s.Nodes, s.Gen = append(s.Nodes, n), 1
		if hasCell {
			checkImproper(t, "no cells", s)
			s.Cells = []api.Ref{0}
		}
		checkProper(t, "as many cells as it needs", s)
	}
}

// P5.1: two nodes name the same cell, for each two kinds that have one.
func TestOfSharedCells(t *testing.T) {
	pairs := 0
	for i := range properState().Nodes {
		for j := range properState().Nodes {
			s := properState()
			one, other := ownCell(&s.Nodes[i]), ownCell(&s.Nodes[j])
			if i == j || one == nil || other == nil {
				continue
			}
			pairs++
			*one = *other
			checkImproper(t, "a cell of two nodes", s)
		}
	}
	if pairs != 7*6 {
		t.Errorf("there are %d pairs of nodes with cells", pairs)
	}
}

// P5.1: the state of an arena whose nodes, cells and generations fit together is proper, after each call.
func TestOfStatesOfArenas(t *testing.T) {
	a := arena.New()
	for i := range 60 {
		switch i % 4 {
		case 0:
			a.NewGen()
		case 1:
			a.NewCell(api.Ref(i % 3))
		case 2:
			a.CAS(api.Cell(1+i/4), a.Load(api.Cell(1+i/4)), api.Ref(1+i/4))
		}
		a.Alloc(valid(kinds()[i%8]), api.Ref(i%3))
		checkProper(t, "an arena", a.State())
	}
}

// P5.1: State returns also a state that is not proper, and Of refuses it.
func TestStateNotProper(t *testing.T) {
	a := arena.New()
	a.Alloc(full(api.KindL), -7)
	a.NewCell(99)
	n, _ := withCell(full(api.KindL), 1)
	s := api.State{Nodes: append(deepCopy(markedState).Nodes, n), Cells: []api.Ref{-7, 99}}
	checkState(t, "not proper", a, s, 0)
	checkState(t, "a copy", a.Copy(), s, 0)
	checkImproper(t, "State", a.State())
}
