package view_test

import (
	"math"
	"slices"
	"strings"
	"testing"

	"ctrie/api"
	"ctrie/node"
	"ctrie/statetest"
	"ctrie/view"
)

// The nodes and cells of sample that the tests name.
const (
	single = api.Ref(3)
	tombed = api.Ref(4)
	listed = api.Ref(5)
	fork   = api.Ref(6)
	upper  = api.Ref(7)
	failed = api.Ref(8)
	desc   = api.Ref(9)
	lower  = api.Ref(10)
	nodes  = api.Ref(11)

	tombPrev  = api.Cell(1)
	listPrev  = api.Cell(2)
	forkPrev  = api.Cell(3)
	upperMain = api.Cell(4)
	status    = api.Cell(5)
	lowerMain = api.Cell(6)
	rootCell  = api.Cell(7)
	spareCell = api.Cell(8)
	cells     = api.Cell(8)
)

// sample returns a proper state with nodes of all kinds, in which the trie of rootCell consists of upper, fork and single.
func sample() api.State {
	return api.State{
		Nodes: []api.Node{
			{Kind: api.KindMark},
			{Kind: api.KindMark},
			{Kind: api.KindS, Hash: 5, Key: "s", Value: 1},
			{Kind: api.KindT, Hash: 6, Key: "t", Value: 2, Prev: tombPrev},
			{Kind: api.KindL, Hash: 7, Pairs: []api.Pair{{Key: "a", Value: 3}, {Key: "b", Value: 4}}, Prev: listPrev},
			{Kind: api.KindC, Bitmap: 1 << 5, Branches: []api.Ref{single}, Prev: forkPrev},
			{Kind: api.KindI, Gen: 1, Main: upperMain},
			{Kind: api.KindFailed, Old: tombed},
			{Kind: api.KindDesc, Old: upper, Expected: fork, New: lower, Status: status},
			{Kind: api.KindI, Gen: 2, Main: lowerMain},
			{Kind: api.KindMark},
		},
		Cells: []api.Ref{0, 0, 0, fork, 0, tombed, upper, 0},
		Gen:   2,
	}
}

// sampleTrie is the trie of sample.
var sampleTrie = api.Trie{Root: rootCell}

// mains are the main nodes of sample, and inners its I-nodes.
var (
	mains  = []api.Ref{tombed, listed, fork}
	inners = []api.Ref{upper, lower}
)

// noNodes are numbers that no node of sample has, and noCells numbers that no cell of it has.
var (
	noNodes = []api.Ref{math.MinInt, math.MinInt + 1, -nodes, -1, 0, nodes + 1, nodes + 2, math.MaxInt32, math.MaxInt}
	noCells = []api.Cell{math.MinInt, math.MinInt + 1, -cells, -1, 0, cells + 1, cells + 2, math.MaxInt32, math.MaxInt}
)

// set changes the contents of a cell.
func set(s api.State, c api.Cell, r api.Ref) {
	s.Cells[c-1] = r
}

// checkRoot reports an error if Root does not return a root each time, or, if it is 0, does not return that there is none.
func checkRoot(t *testing.T, s api.State, c api.Cell, want api.Ref) {
	t.Helper()
	before := statetest.Copied(s)
	for _, readOnly := range []bool{false, true, false} {
		if got, ok := view.Root(s, api.Trie{Root: c, ReadOnly: readOnly}); got != want || ok != (want != 0) {
			t.Fatalf("Root of cell %d (%v) is %d, %v, want %d: %+v", c, readOnly, got, ok, want, s)
		}
	}
	if !statetest.Same(s, before) {
		t.Fatalf("Root changes the state to %+v, from %+v", s, before)
	}
}

// checkMain reports an error if Main does not return a main node each time, or, if it is 0, does not return that there is
// none.
func checkMain(t *testing.T, s api.State, in, want api.Ref) {
	t.Helper()
	before := statetest.Copied(s)
	for range 2 {
		if got, ok := view.Main(s, in); got != want || ok != (want != 0) {
			t.Fatalf("Main of node %d is %d, %v, want %d: %+v", in, got, ok, want, s)
		}
	}
	if !statetest.Same(s, before) {
		t.Fatalf("Main changes the state to %+v, from %+v", s, before)
	}
}

// only returns r if it is one of l, and 0 otherwise.
func only(r api.Ref, l []api.Ref) api.Ref {
	if slices.Contains(l, r) {
		return r
	}
	return 0
}

// P9.1: the cell contains an I-node; this is the root, of whatever node the cell is and whatever is below.
func TestRootIsInner(t *testing.T) {
	for c := api.Cell(1); c <= cells; c++ {
		for _, r := range inners {
			s := sample()
			set(s, c, r)
			checkRoot(t, s, c, r)
		}
	}
	s := sample()
	set(s, upperMain, 0)
	checkRoot(t, s, rootCell, upper)
}

// P9.1: the cell contains a node of a kind that is neither an I-node nor a descriptor, or 0.
func TestRootIsNoInner(t *testing.T) {
	for _, r := range []api.Ref{0, api.Yes, api.No, single, tombed, listed, fork, failed, nodes} {
		s := sample()
		set(s, rootCell, r)
		checkRoot(t, s, rootCell, 0)
	}
	// A failed marker is not followed, whatever its Old is.
	for old := api.Ref(1); old <= nodes; old++ {
		s := sample()
		set(s, rootCell, failed)
		s.Nodes[failed-1].Old = old
		checkRoot(t, s, rootCell, 0)
	}
}

// P9.1: the cell contains a descriptor: New if its Status contains Yes, Old for everything else that it may contain.
// The one that counts may be any node, also the descriptor, and only an I-node is a root; nor is another node of the
// descriptor the root in its place.
func TestRootIsDescriptor(t *testing.T) {
	for r := api.Ref(0); r <= nodes; r++ {
		for old := api.Ref(1); old <= nodes; old++ {
			for new := api.Ref(1); new <= nodes; new++ {
				s := sample()
				set(s, rootCell, desc)
				set(s, status, r)
				s.Nodes[desc-1].Old, s.Nodes[desc-1].New = old, new
				want := only(old, inners)
				if r == api.Yes {
					want = only(new, inners)
				}
				checkRoot(t, s, rootCell, want)
			}
		}
	}
}

// P9.1: Expected of a descriptor does not count, nor whether it is the main node of Old.
func TestRootExpected(t *testing.T) {
	for expected := api.Ref(1); expected <= nodes; expected++ {
		for r, want := range map[api.Ref]api.Ref{0: upper, api.No: upper, api.Yes: lower} {
			s := sample()
			set(s, rootCell, desc)
			set(s, status, r)
			s.Nodes[desc-1].Expected = expected
			checkRoot(t, s, rootCell, want)
		}
	}
}

// P9.1: a descriptor below a descriptor is no root, though it may have one.
func TestRootDescriptorOfDescriptor(t *testing.T) {
	s := sample()
	s.Nodes = append(s.Nodes, api.Node{Kind: api.KindDesc, Old: desc, Expected: fork, New: desc, Status: cells + 1})
	s.Cells = append(s.Cells, 0)
	set(s, rootCell, nodes+1)
	for _, r := range []api.Ref{0, api.Yes, api.No} {
		set(s, cells+1, r)
		for _, r := range []api.Ref{0, api.Yes, api.No} {
			set(s, status, r)
			checkRoot(t, s, rootCell, 0)
		}
	}
}

// P9.1: a cell that does not exist.
func TestRootOfNoCell(t *testing.T) {
	for _, c := range noCells {
		checkRoot(t, sample(), c, 0)
	}
	s := sample()
	s.Nodes, s.Cells = s.Nodes[:3], nil
	for _, c := range append(noCells, 1, 2, cells) {
		checkRoot(t, s, c, 0)
	}
	// There is memory behind the cells, but no cell.
	s = sample()
	s.Cells = append(s.Cells, upper, upper)[:cells]
	checkRoot(t, s, cells+1, 0)
	checkRoot(t, s, rootCell, upper)
}

// P9.1: Main contains a main node of each kind whose Prev contains 0.
func TestMainCommitted(t *testing.T) {
	for _, in := range inners {
		for _, m := range mains {
			s := sample()
			set(s, s.Nodes[in-1].Main, m)
			checkMain(t, s, in, m)
		}
	}
	s := sample()
	checkMain(t, s, upper, fork)
	checkMain(t, s, lower, tombed)
}

// P9.1: Main contains a node of another kind, or 0. Nothing else that a node of that kind names is taken in its place.
func TestMainContainsNoMain(t *testing.T) {
	for _, r := range []api.Ref{0, api.Yes, api.No, single, upper, failed, desc, lower, nodes} {
		for old := api.Ref(1); old <= nodes; old++ {
			s := sample()
			set(s, lowerMain, r)
			set(s, status, old)
			set(s, upperMain, old)
			s.Nodes[failed-1].Old = old
			s.Nodes[desc-1].Old, s.Nodes[desc-1].New, s.Nodes[desc-1].Expected = old, old, old
			checkMain(t, s, lower, 0)
		}
	}
}

// prevOf returns the cell Prev of a main node of sample.
func prevOf(m api.Ref) api.Cell {
	return sample().Nodes[m-1].Prev
}

// P9.1: each main node with each contents of its Prev: itself for 0, Old for a failed marker, the contents where they
// are a main node (also itself), and no main node for anything else. What other main nodes have in Prev does not count,
// nor what the nodes of other kinds name.
func TestMainPrev(t *testing.T) {
	for _, m := range mains {
		wants := map[api.Ref]api.Ref{0: m, failed: tombed, tombed: tombed, listed: listed, fork: fork}
		for prev := api.Ref(0); prev <= nodes; prev++ {
			for others := api.Ref(0); others <= nodes; others++ {
				s := sample()
				for _, c := range []api.Cell{tombPrev, listPrev, forkPrev} {
					set(s, c, others)
				}
				set(s, prevOf(m), prev)
				set(s, upperMain, m)
				set(s, lowerMain, others)
				if others != 0 {
					s.Nodes[desc-1].Old, s.Nodes[desc-1].New, s.Nodes[desc-1].Expected = others, others, others
				}
				checkMain(t, s, upper, wants[prev])
			}
		}
	}
}

// P9.1: each main node with a failed marker in its Prev: Old of the marker is the main node if it is a main node, also
// the failed one, and there is none if Old is something else, also where Old's Main or Old's Old is a main node.
func TestMainFailed(t *testing.T) {
	for _, m := range mains {
		for old := api.Ref(1); old <= nodes; old++ {
			for others := api.Ref(0); others <= nodes; others++ {
				s := sample()
				for _, c := range []api.Cell{tombPrev, listPrev, forkPrev} {
					set(s, c, others)
				}
				s.Nodes[failed-1].Old = old
				set(s, prevOf(m), failed)
				set(s, upperMain, m)
				checkMain(t, s, upper, only(old, mains))
			}
		}
	}
}

// P9.1: a failed marker whose Old is another failed marker, which has a main node.
func TestMainFailedTwice(t *testing.T) {
	s := sample()
	s.Nodes = append(s.Nodes, api.Node{Kind: api.KindFailed, Old: failed})
	set(s, forkPrev, nodes+1)
	checkMain(t, s, upper, 0)
}

// P9.1: main nodes that are no branch of anything and have fields of every size.
func TestMainSizes(t *testing.T) {
	for _, n := range []api.Node{
		{Kind: api.KindC},
		{Kind: api.KindC, Bitmap: math.MaxUint64, Branches: slices.Repeat([]api.Ref{single, upper}, 32)},
		{Kind: api.KindC, Bitmap: 1, Branches: []api.Ref{api.Yes}},
		{Kind: api.KindT},
		{Kind: api.KindT, Hash: math.MaxUint64, Key: strings.Repeat("k", api.MaxKey), Value: math.MaxUint64},
		{Kind: api.KindL, Pairs: []api.Pair{{Key: ""}, {Key: strings.Repeat("k", api.MaxKey)}}},
	} {
		s := sample()
		n.Prev = cells + 1
		s.Nodes, s.Cells = append(s.Nodes, n), append(s.Cells, 0)
		set(s, upperMain, nodes+1)
		checkMain(t, s, upper, nodes+1)
		set(s, cells+1, fork)
		checkMain(t, s, upper, fork)
		set(s, forkPrev, nodes+1)
		set(s, upperMain, fork)
		checkMain(t, s, upper, nodes+1)
	}
}

// P9.1: in is a node of another kind, or none. A main node has no main node, nor has a descriptor of I-nodes.
func TestMainOfNoInner(t *testing.T) {
	for r := api.Ref(1); r <= nodes; r++ {
		if only(r, inners) == 0 {
			checkMain(t, sample(), r, 0)
		}
	}
	for _, r := range noNodes {
		checkMain(t, sample(), r, 0)
	}
	// There is memory behind the nodes, but no node.
	s := sample()
	s.Nodes = append(s.Nodes, api.Node{Kind: api.KindI, Gen: 1, Main: spareCell})[:nodes]
	set(s, spareCell, fork)
	checkMain(t, s, nodes+1, 0)
	checkMain(t, s, upper, fork)
}

// improper returns states that are not proper, each for one reason. Each has all that the trie of sample has, if it has
// more than a node.
func improper() map[string]api.State {
	all := map[string]api.State{
		"the zero state":         {},
		"no nodes but cells":     {Cells: sample().Cells, Gen: 2},
		"one node":               {Nodes: sample().Nodes[:1], Cells: []api.Ref{1}},
		"one node, others after": {Nodes: sample().Nodes[:1:nodes], Cells: []api.Ref{1, 1, 1, 1, 1, 1, 1}},
	}
	at := func(r api.Ref, change func(n *api.Node)) func(s *api.State) {
		return func(s *api.State) { change(&s.Nodes[r-1]) }
	}
	for what, change := range map[string]func(s *api.State){
		"Yes is no mark":             at(api.Yes, func(n *api.Node) { *n = node.Single(5, "k", 1) }),
		"No is no mark":              at(api.No, func(n *api.Node) { *n = node.Single(5, "k", 1) }),
		"a node without a kind":      at(nodes, func(n *api.Node) { n.Kind = 0 }),
		"a node of kind 9":           at(nodes, func(n *api.Node) { n.Kind = 9 }),
		"a mark with a key":          at(nodes, func(n *api.Node) { n.Key = "k" }),
		"a tomb with a long key":     at(tombed, func(n *api.Node) { n.Key = strings.Repeat("k", api.MaxKey+1) }),
		"a list of one pair":         at(listed, func(n *api.Node) { n.Pairs = n.Pairs[:1] }),
		"a list out of order":        at(listed, func(n *api.Node) { slices.Reverse(n.Pairs) }),
		"a C-node with a lost one":   at(fork, func(n *api.Node) { n.Bitmap |= 1 << 6 }),
		"a C-node with a branch 0":   at(fork, func(n *api.Node) { n.Bitmap, n.Branches = 33, []api.Ref{single, 0} }),
		"a single with a Prev":       at(single, func(n *api.Node) { n.Prev = spareCell }),
		"a marker without Old":       at(failed, func(n *api.Node) { n.Old = 0 }),
		"a descriptor without New":   at(desc, func(n *api.Node) { n.New = 0 }),
		"generation 0":               at(lower, func(n *api.Node) { n.Gen = 0 }),
		"a generation to come":       at(lower, func(n *api.Node) { n.Gen = 3 }),
		"an older latest generation": func(s *api.State) { s.Gen = 1 },
		"no latest generation":       func(s *api.State) { s.Gen = -1 },
		"Old after the last node":    at(failed, func(n *api.Node) { n.Old = nodes + 1 }),
		"New after the last node":    at(desc, func(n *api.Node) { n.New = nodes + 1 }),
		"a branch after the last":    at(fork, func(n *api.Node) { n.Bitmap, n.Branches = 33, []api.Ref{single, nodes + 1} }),
		"a cell with -1":             func(s *api.State) { set(*s, spareCell, -1) },
		"a cell after the last node": func(s *api.State) { set(*s, spareCell, nodes+1) },
		"Status after the last cell": at(desc, func(n *api.Node) { n.Status = cells + 1 }),
		"no Status":                  at(desc, func(n *api.Node) { n.Status = 0 }),
		"no Main":                    at(lower, func(n *api.Node) { n.Main = 0 }),
		"no Prev":                    at(tombed, func(n *api.Node) { n.Prev = 0 }),
		"a cell of two nodes":        at(tombed, func(n *api.Node) { n.Prev = status }),
		"a cell of two I-nodes":      at(lower, func(n *api.Node) { n.Main = upperMain }),
	} {
		s := sample()
		change(&s)
		all[what] = s
	}
	return all
}

// P9.1, P9.2: states that are not proper have nothing, though the trie of sample is in them as ever.
func TestImproperStates(t *testing.T) {
	checkRoot(t, sample(), rootCell, upper)
	checkMain(t, sample(), upper, fork)
	checkVisit(t, sample(), sampleTrie, []api.Pair{{Key: "s", Value: 1}}, []api.Ref{upper})
	for what, s := range improper() {
		t.Run(what, func(t *testing.T) {
			for c := api.Cell(-1); c <= cells+1; c++ {
				checkRoot(t, s, c, 0)
				checkInvalid(t, s, api.Trie{Root: c})
			}
			for r := api.Ref(-1); r <= nodes+1; r++ {
				checkMain(t, s, r, 0)
			}
		})
	}
}

// P9.1: a state that is proper at the limits: the latest generation, cells of no node, and no node but the marks.
func TestProperStates(t *testing.T) {
	s := sample()
	s.Gen = math.MaxInt
	checkRoot(t, s, rootCell, upper)
	checkMain(t, s, upper, fork)
	s = api.State{Nodes: sample().Nodes[:2], Cells: []api.Ref{1, 2, 0}}
	for c := api.Cell(-1); c <= 4; c++ {
		checkRoot(t, s, c, 0)
		checkInvalid(t, s, api.Trie{Root: c})
	}
	for r := api.Ref(-1); r <= 3; r++ {
		checkMain(t, s, r, 0)
	}
}
