package shape_test

import (
	"math"
	"testing"

	"ctrie/api"
	"ctrie/node"
	"ctrie/statetest"
	"ctrie/view"
)

// unlistable returns roots below which the I-nodes cannot be listed, for a reason at an I-node that is some levels lower.
// All else is well-formed for the mask 0.
func (b *builder) unlistable(levels int) map[string]api.Ref {
	down := way(0, levels)
	zeros := func(levels int, m api.Ref) api.Ref { return b.above(b.inner(usual, m), usual, way(0, levels)) }
	twice := b.inner(usual, b.tomb("a"))
	loop := b.inner(usual, 0)
	b.set(b.Node(loop).Main, b.fork(map[int]api.Ref{0: loop}))
	good := b.tomb("a")
	desc := b.Alloc(node.Desc(twice, good, twice), api.Yes)
	all := map[string]api.Ref{
		"no main node":            b.inner(usual, 0),
		"a mark as main node":     b.inner(usual, api.Yes),
		"a single as main node":   b.inner(usual, b.single("a")),
		"an I-node as main node":  b.inner(usual, twice),
		"Prev is a single":        b.inner(usual, b.Alloc(b.Node(good), b.single("a"))),
		"Prev is a descriptor":    b.inner(usual, b.Alloc(b.Node(good), desc)),
		"a marker of a single":    b.inner(usual, b.Alloc(b.Node(good), b.Alloc(node.Failed(b.single("a")), 0))),
		"a mark as branch":        b.inner(usual, b.fork(map[int]api.Ref{0: api.Yes})),
		"a tomb as branch":        b.inner(usual, b.fork(map[int]api.Ref{0: good})),
		"a descriptor as branch":  b.inner(usual, b.fork(map[int]api.Ref{0: desc})),
		"an odd branch at 63":     b.inner(usual, b.fork(map[int]api.Ref{0: b.inner(usual, good), 63: good})),
		"an I-node twice":         b.inner(usual, b.fork(map[int]api.Ref{0: twice, 1: twice})),
		"an I-node below itself":  loop,
		"an I-node of a level 12": zeros(12-levels, good),
	}
	for what, in := range all {
		all[what] = b.above(in, usual, down)
	}
	return all
}

// P10.1, P10.2: the I-nodes cannot be listed, at the root or below it, where all else is well-formed.
func TestUnlistable(t *testing.T) {
	for _, levels := range []int{0, 1, 2, 5, 10} {
		names := newBuilder(0).unlistable(levels)
		for what := range names {
			b := newBuilder(0)
			x := b.trie(b.unlistable(levels)[what])
			if _, e := view.Inner(b.State(), x); e != api.ErrInvalid {
				t.Fatalf("%s: the I-nodes are listed", what)
			}
			checkInvalid(t, b.State(), x, 0)
		}
	}
}

// broken returns I-nodes of level 1 each of which breaks one condition, for the mask 0.
func (b *builder) broken() []api.Ref {
	return []api.Ref{
		b.inner(usual, b.list("a", "b")),
		b.inner(usual, b.fork(nil)),
		b.inner(usual, b.fan(1, "a")),
		b.inner(usual, b.Alloc(node.Tomb(64, "a", 1), 0)),
		b.inner(usual+1, b.tomb("a")),
	}
}

// P10.1: a trie whose I-nodes cannot be listed and that breaks a condition too, before the I-node that is the reason,
// behind it, or at the root.
func TestUnlistableAndBroken(t *testing.T) {
	names := newBuilder(0).unlistable(0)
	for what := range names {
		for i := range newBuilder(0).broken() {
			for _, at := range []int{0, 63} {
				b := newBuilder(0)
				x := b.at(b.fork(map[int]api.Ref{at: b.broken()[i], 30: b.unlistable(1)[what]}), nil)
				checkInvalid(t, b.State(), x, 0)
			}
		}
		b := newBuilder(0)
		late := b.above(b.unlistable(1)[what], 1, way(0, 1))
		x := b.trie(late)
		checkInvalid(t, b.State(), x, 0)
		x = b.at(b.fork(map[int]api.Ref{0: b.unlistable(1)[what], 63: b.single("a")}), nil)
		checkInvalid(t, b.State(), x, 0)
	}
	// Without the reason, what is broken is noticed, and the trie without both is well-formed.
	for i := range newBuilder(0).broken() {
		b := newBuilder(0)
		x := b.at(b.fork(map[int]api.Ref{0: b.broken()[i]}), nil)
		check(t, b.State(), x, 0, api.ErrState)
		x = b.at(b.fork(map[int]api.Ref{0: b.inner(usual, b.tomb("a"))}), nil)
		checkGood(t, b.State(), x, 0, 1)
	}
}

// P10.1, P10.2: the cell of the trie does not exist, or contains neither an I-node nor a descriptor of one.
func TestNoRoot(t *testing.T) {
	b := newBuilder(63)
	good := b.at(b.fan(0, "a"), nil)
	r := b.Load(good.Root)
	m := b.mainOf(r)
	last := api.Cell(len(b.State().Cells))
	for _, c := range []api.Cell{math.MinInt, -1, 0, last + 1, last + 2, math.MaxInt} {
		checkInvalid(t, b.State(), api.Trie{Root: c}, 63)
	}
	desc := b.Alloc(node.Desc(m, m, m), 0)
	for _, no := range []api.Ref{0, api.Yes, api.No, m, b.single("a"), b.tomb("a"), b.list("a", "b"), b.Alloc(node.Failed(r), 0), desc} {
		x := b.trie(no)
		checkInvalid(t, b.State(), x, 63)
		if no == 0 {
			continue
		}
		for _, status := range []api.Ref{0, api.Yes, api.No, r} {
			old, new := no, r
			if status == api.Yes {
				old, new = r, no
			}
			x := b.trie(b.Alloc(node.Desc(old, m, new), status))
			checkInvalid(t, b.State(), x, 63)
		}
	}
	checkGood(t, b.State(), good, 63, 0)
}

// improper returns states that are not proper, each for one reason, and have all that the proper state s has.
func improper(s api.State) map[string]api.State {
	first := func(kind int) int {
		for i, n := range s.Nodes {
			if n.Kind == kind {
				return i
			}
		}
		return -1
	}
	all := map[string]api.State{}
	for what, change := range map[string]func(s *api.State){
		"Yes is no mark":             func(s *api.State) { s.Nodes[0] = node.Single(0, "k", 1) },
		"No is no mark":              func(s *api.State) { s.Nodes[1] = node.Single(0, "k", 1) },
		"a node of no kind":          func(s *api.State) { s.Nodes = append(s.Nodes, api.Node{}) },
		"a node of kind 9":           func(s *api.State) { s.Nodes = append(s.Nodes, api.Node{Kind: 9}) },
		"a mark with a hash":         func(s *api.State) { s.Nodes = append(s.Nodes, api.Node{Kind: api.KindMark, Hash: 1}) },
		"a single with a Prev":       func(s *api.State) { s.Nodes[first(api.KindS)].Prev = 1 },
		"a C-node with a lost one":   func(s *api.State) { s.Nodes[first(api.KindC)].Bitmap = 0 },
		"a marker of no node":        func(s *api.State) { s.Nodes = append(s.Nodes, node.Failed(api.Ref(len(s.Nodes)+2))) },
		"a marker of node 0":         func(s *api.State) { s.Nodes = append(s.Nodes, node.Failed(0)) },
		"a tomb without a cell":      func(s *api.State) { s.Nodes = append(s.Nodes, node.Tomb(0, "k", 1)) },
		"an older latest generation": func(s *api.State) { s.Gen = usual - 1 },
		"no latest generation":       func(s *api.State) { s.Gen = 0 },
		"a cell of a missing node":   func(s *api.State) { s.Cells = append(s.Cells, api.Ref(len(s.Nodes)+1)) },
		"a cell with -1":             func(s *api.State) { s.Cells = append(s.Cells, -1) },
		"a cell of two nodes":        func(s *api.State) { s.Nodes[first(api.KindI)].Main = s.Nodes[first(api.KindC)].Prev },
	} {
		other := statetest.Copied(s)
		change(&other)
		all[what] = other
	}
	all["the zero state"] = api.State{}
	all["no cells"] = api.State{Nodes: s.Nodes, Gen: s.Gen}
	all["no nodes"] = api.State{Cells: s.Cells, Gen: s.Gen}
	return all
}

// P10.1, P10.2: states that are not proper, with well-formed tries and with one that breaks a condition. The nodes that
// make them so need not be of the trie.
func TestImproperStates(t *testing.T) {
	b := newBuilder(63)
	tries := []api.Trie{
		b.at(b.fan(0, "a"), nil),
		b.at(b.fan(0, "a", "b", "c"), nil),
		b.at(b.tomb("a"), way(b.hash("a"), 3)),
		b.at(b.tomb("a"), nil),
	}
	wants := []api.Errno{api.OK, api.OK, api.OK, api.ErrState}
	s := b.State()
	for i, x := range tries {
		check(t, s, x, 63, wants[i])
		for what, bad := range improper(s) {
			t.Run(what, func(t *testing.T) { checkInvalid(t, bad, x, 63) })
		}
	}
}

// P10.1: an I-node of the trie that is newer than the state is no matter of condition 4: the state is not proper.
func TestGenerationToCome(t *testing.T) {
	b := newBuilder(63)
	x := b.trie(b.above(b.inner(latest, b.tomb("a")), 1, way(b.hash("a"), 1)))
	s := b.State()
	check(t, s, x, 63, api.ErrState)
	s.Gen--
	checkInvalid(t, s, x, 63)
}
