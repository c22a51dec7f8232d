package view_test

import (
	"slices"
	"testing"

	"ctrie/api"
	"ctrie/statetest"
	"ctrie/view"
)

// overwrite changes the elements of a list, also those behind its last one.
func overwrite[T any](l []T, with T) {
	l = l[:cap(l)]
	for i := range l {
		l[i] = with
	}
}

// varied returns a state with a trie that has pairs of every kind of nodes, and is pending and failed in places.
func varied() (api.State, api.Trie) {
	b := newBuilder()
	pending := b.inner(b.Alloc(b.Node(b.fork(nil)), b.fork(map[int]api.Ref{1: b.single(1), 4: b.list(2, 3)})))
	r := b.forked(map[int]api.Ref{5: pending, 6: b.list(4, 5, 6), 7: b.single(7), 8: b.tomb(8)})
	x := b.trie(r)
	return b.State(), x
}

// R3: no call changes the state, nor what is around its lists.
func TestArgumentsStay(t *testing.T) {
	s, x := varied()
	for _, c := range []api.Cell{x.Root, 1, 2, 0} {
		part, whole := statetest.Roomy(s)
		before := statetest.Copied(whole)
		x.Root = c
		view.Root(part, x)
		for r := range api.Ref(len(part.Nodes)) + 2 {
			view.Main(part, r)
		}
		view.Contents(part, x)
		view.Inner(part, x)
		if !statetest.Same(whole, before) || !statetest.Same(part, s) {
			t.Fatalf("a call changes the state, or what is around it, to %+v, from %+v", whole, before)
		}
	}
}

// R3: results share no memory with the state or with each other, also where all pairs are those of one list.
func TestResultsAreNew(t *testing.T) {
	b := newBuilder()
	list := b.list(1, 2, 3)
	alone := b.trie(list)
	first := b.trie(b.forked(map[int]api.Ref{0: list, 1: b.single(4)}))
	several, x := varied()
	for _, c := range []struct {
		s api.State
		x api.Trie
	}{{b.State(), alone}, {b.State(), first}, {several, x}} {
		part, whole := statetest.Roomy(c.s)
		before := statetest.Copied(whole)
		pairs, _ := view.Contents(part, c.x)
		inner, _ := view.Inner(part, c.x)
		samePairs, _ := view.Contents(part, c.x)
		sameInner, _ := view.Inner(part, c.x)
		wantPairs, wantInner := slices.Clone(pairs), slices.Clone(inner)
		overwrite(pairs, api.Pair{Key: "changed", Value: 1000})
		overwrite(inner, 1000)
		if !statetest.Same(whole, before) {
			t.Errorf("writing over a result changes the state to %+v, from %+v", whole, before)
		}
		for _, n := range part.Nodes {
			overwrite(n.Branches, 1000)
			overwrite(n.Pairs, api.Pair{Key: "changed", Value: 1000})
		}
		overwrite(part.Nodes, api.Node{Key: "changed"})
		overwrite(part.Cells, 1000)
		if !slices.Equal(samePairs, wantPairs) || !slices.Equal(sameInner, wantInner) {
			t.Errorf("a result is changed to %v and %v, from %v and %v", samePairs, sameInner, wantPairs, wantInner)
		}
	}
}

// R2: calls do not depend on earlier ones, nor on where a state is in memory.
func TestCallsDoNotDependOnOthers(t *testing.T) {
	s, x := varied()
	pairs, _ := view.Contents(s, x)
	inner, _ := view.Inner(s, x)
	for _, bad := range improper() {
		checkInvalid(t, bad, sampleTrie)
		checkVisit(t, s, x, pairs, inner)
		checkVisit(t, statetest.Copied(s), x, pairs, inner)
	}
}
