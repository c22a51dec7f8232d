package arena_test

import (
	"slices"
	"testing"

	"ctrie/api"
	"ctrie/arena"
)

// within returns a list in the middle of a longer one, so that it has memory behind its last element, and the longer one.
func within[T any](l []T, outside T) (part, whole []T) {
	whole = append([]T{outside}, l...)
	whole = slices.Clip(append(whole, outside, outside, outside))
	return whole[1 : 1+len(l)], whole
}

// roomy returns an equal state whose lists all have memory around them, and a state whose lists have all of this memory:
// behind its nodes, there is for each node one more with the longer lists of that.
func roomy(s api.State) (part, whole api.State) {
	var nodes, longer []api.Node
	for _, n := range s.Nodes {
		m := n
		n.Branches, m.Branches = within(n.Branches, 77)
		n.Pairs, m.Pairs = within(n.Pairs, api.Pair{Key: "outside", Value: 77})
		nodes, longer = append(nodes, n), append(longer, m)
	}
	part.Gen = s.Gen
	part.Cells, whole.Cells = within(s.Cells, 77)
	part.Nodes, whole.Nodes = within(nodes, api.Node{Kind: 77, Key: "outside"})
	whole.Nodes = append(slices.Clone(whole.Nodes), longer...)
	return part, whole
}

// overwriteNode changes every field of a node, and its lists up to their capacities.
func overwriteNode(n *api.Node) {
	for i := range n.Branches[:cap(n.Branches)] {
		n.Branches[:cap(n.Branches)][i] += 1000
	}
	for i := range n.Pairs[:cap(n.Pairs)] {
		n.Pairs[:cap(n.Pairs)][i] = api.Pair{Key: "changed", Value: 1000}
	}
	*n = api.Node{Kind: 1000, Key: "changed", Branches: n.Branches, Pairs: n.Pairs}
}

// overwrite changes everything in a state, and its lists up to their capacities.
func overwrite(s api.State) {
	for i := range s.Nodes[:cap(s.Nodes)] {
		overwriteNode(&s.Nodes[:cap(s.Nodes)][i])
	}
	for i := range s.Cells[:cap(s.Cells)] {
		s.Cells[:cap(s.Cells)][i] += 1000
	}
}

// R3: Alloc changes nothing of its argument, nor of what is around its lists.
func TestAllocLeavesItsArgument(t *testing.T) {
	for _, kind := range append(kinds(), otherKinds...) {
		part, whole := roomy(api.State{Nodes: []api.Node{full(kind), valid(kind)}})
		before := deepCopy(whole)
		a := arena.New()
		for _, n := range part.Nodes {
			a.Alloc(n, 1)
			a.Alloc(n, 2)
		}
		if !sameState(whole, before) {
			t.Errorf("Alloc changes its argument, or what is around it, to %#v, from %#v", whole, before)
		}
	}
}

// R3: an argument of Alloc that is written over after the call leaves the node as it was.
func TestAllocKeepsNothing(t *testing.T) {
	for _, kind := range append(kinds(), otherKinds...) {
		for _, n := range []api.Node{full(kind), valid(kind)} {
			part, _ := roomy(api.State{Nodes: []api.Node{n}})
			a := arena.New()
			r := a.Alloc(part.Nodes[0], 1)
			want, _ := withCell(n, 1)
			overwriteNode(&part.Nodes[0])
			checkNode(t, a, r, want)
		}
	}
}

// R3: Of changes nothing of its argument, nor of what is around its lists, nor do calls with the arena.
func TestOfLeavesItsArgument(t *testing.T) {
	part, whole := roomy(properState())
	before := deepCopy(whole)
	a, _ := arena.Of(part)
	for _, change := range changes() {
		change(a)
	}
	if !sameState(whole, before) {
		t.Errorf("Of, or a call after it, changes its argument, or what is around it, to %#v, from %#v", whole, before)
	}
}

// R3: an argument of Of that is written over after the call leaves the arena as it was.
func TestOfKeepsNothing(t *testing.T) {
	part, whole := roomy(properState())
	a, _ := arena.Of(part)
	overwrite(whole)
	overwrite(part)
	checkState(t, "Of", a, properState(), 0)
}

// R3: what Node returns is new memory each time: writing over it changes neither the arena nor another result.
func TestNodeIsNew(t *testing.T) {
	a := filled(2)
	want := deepCopy(a.State())
	for i, n := range want.Nodes {
		one, other := a.Node(api.Ref(i+1)), a.Node(api.Ref(i+1))
		overwriteNode(&one)
		checkNode(t, a, api.Ref(i+1), n)
		if kept := (api.State{Nodes: []api.Node{other}}); !sameState(kept, api.State{Nodes: []api.Node{n}}) {
			t.Errorf("writing over what Node returns for %#v changed another result to %#v", n, other)
		}
	}
	checkUnchanged(t, "Node", a, want)
}

// R3: what State returns is new memory each time: writing over it changes neither the arena, nor a copy, nor another
// result, and calls with the arena do not change it.
func TestStateIsNew(t *testing.T) {
	for rounds := range 4 {
		a := filled(rounds)
		want := deepCopy(a.State())
		one, other, c := a.State(), a.State(), a.Copy()
		overwrite(one)
		checkUnchanged(t, "State", a, want)
		checkUnchanged(t, "State of a copied arena", c, want)
		if !sameState(other, want) {
			t.Errorf("writing over what State returns changed another result to %#v, from %#v", other, want)
		}
		whole := api.State{Nodes: other.Nodes[:cap(other.Nodes)], Cells: other.Cells[:cap(other.Cells)], Gen: other.Gen}
		before := deepCopy(whole)
		for _, change := range changes() {
			change(a)
			change(c)
		}
		if !sameState(whole, before) {
			t.Errorf("calls with the arena changed what State returned, or the memory behind it, to %#v, from %#v", whole, before)
		}
		want = deepCopy(a.State())
		overwrite(c.State())
		overwrite(c.Copy().State())
		checkUnchanged(t, "the state of a copy", a, want)
	}
}
