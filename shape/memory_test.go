package shape_test

import (
	"testing"

	"ctrie/api"
	"ctrie/shape"
	"ctrie/statetest"
)

// varied returns a state with a well-formed trie of eleven levels, with collision lists, and one that is not well-formed.
func varied() (s api.State, good, bad api.Trie) {
	b := newBuilder(1)
	good = b.full(20)
	bad = b.at(b.tomb("a"), nil)
	return b.State(), good, bad
}

// R3: no call changes the state, nor what is around its lists.
func TestArgumentsStay(t *testing.T) {
	s, good, bad := varied()
	part, whole := statetest.Roomy(s)
	before := statetest.Copied(whole)
	for _, x := range []api.Trie{good, bad, {}} {
		shape.Check(part, x, 1)
		shape.Quiet(part, x)
		shape.Depth(part, x)
	}
	if !statetest.Same(whole, before) || !statetest.Same(part, s) {
		t.Fatalf("a call changes the state, or what is around it, to %+v, from %+v", whole, before)
	}
}

// R2: calls do not depend on earlier ones, nor on where a state is in memory.
func TestCallsDoNotDependOnOthers(t *testing.T) {
	s, good, bad := varied()
	for what, state := range improper(s) {
		checkInvalid(t, state, good, 1)
		for _, same := range []api.State{s, statetest.Copied(s)} {
			checkGood(t, same, good, 1, 11)
			check(t, same, bad, 1, api.ErrState)
			checkQuiet(t, same, bad, true)
			checkDepth(t, same, bad, 0)
			check(t, same, good, 2, api.ErrState)
		}
		if t.Failed() {
			t.Fatalf("after a state with %s", what)
		}
	}
}
