package shape_test

import (
	"math"
	"testing"

	"ctrie/api"
	"ctrie/branch"
	"ctrie/keyhash"
	"ctrie/node"
	"ctrie/shape"
	"ctrie/view"
)

// depthOf returns the depth of the trie of the first keys: two keys whose slices are equal at some first levels stand
// below an I-node of the next level.
func depthOf(count int, mask uint64) int {
	depth := 0
	for i := range count {
		for j := range i {
			depth = max(depth, keyhash.Common(keyhash.Hash(key(i), mask), keyhash.Hash(key(j), mask)))
		}
	}
	return depth
}

// P10.1, P10.2, and the consequences: tries of many keys for all masks.
func TestFullTries(t *testing.T) {
	for _, mask := range masks() {
		for _, count := range []int{0, 1, 2, 3, 10, 60, 100} {
			b := newBuilder(mask)
			x := b.full(count)
			checkGood(t, b.State(), x, mask, depthOf(count, mask))
			checkConsequences(t, b, x, count)
		}
	}
}

// checkConsequences reports an error if a key of a well-formed trie occurs twice, or the trie below an I-node of a level
// greater than 0 has no pair, or there are not as many keys as there should be.
func checkConsequences(t *testing.T, b *builder, x api.Trie, count int) {
	t.Helper()
	l, e := view.Contents(b.State(), x)
	seen := map[string]bool{}
	for _, p := range l {
		seen[p.Key] = true
	}
	if e != api.OK || len(l) != count || len(seen) != count {
		t.Errorf("there are %d pairs with %d keys, %d, want %d", len(l), len(seen), e, count)
	}
	inner, _ := view.Inner(b.State(), x)
	for _, in := range inner[1:] {
		below := b.trie(in)
		if l, e := view.Contents(b.State(), below); e != api.OK || len(l) == 0 {
			t.Errorf("below I-node %d there is no pair, %d", in, e)
		}
	}
}

// P10.1: each single of the root becomes an I-node with a tomb.
func TestTombsInFullTries(t *testing.T) {
	for _, mask := range masks() {
		b := newBuilder(mask)
		x := b.full(30)
		r := b.Load(x.Root)
		for index := range 64 {
			c := b.Node(b.mainOf(r))
			below, _ := branch.Lookup(c, index)
			if b.Node(below).Kind != api.KindS {
				continue
			}
			c, _ = branch.Updated(c, index, b.inner(usual, b.tomb(b.Node(below).Key)))
			b.set(b.Node(r).Main, b.Alloc(c, 0))
			checkGood(t, b.State(), x, mask, max(1, depthOf(30, mask)))
		}
	}
}

// damaged are the masks of the tries that the following tests damage.
func damaged() []uint64 {
	return []uint64{1, 63, lows, 3 * lows, math.MaxUint64}
}

// mainsOf returns the main nodes of a trie, from the root's on.
func mainsOf(s api.State, x api.Trie) []api.Ref {
	var l []api.Ref
	inner, _ := view.Inner(s, x)
	for _, in := range inner {
		m, _ := view.Main(s, in)
		l = append(l, m)
	}
	return l
}

// hashed returns the nodes of a trie that have hash values.
func hashed(s api.State, x api.Trie) []api.Ref {
	var l []api.Ref
	for _, m := range mainsOf(s, x) {
		for _, r := range append([]api.Ref{m}, s.Nodes[m-1].Branches...) {
			if k := s.Nodes[r-1].Kind; k != api.KindC && k != api.KindI {
				l = append(l, r)
			}
		}
	}
	return l
}

// P10.1, condition 3: in tries of many keys, each bit of each Hash counts, and each key.
func TestEachHashCounts(t *testing.T) {
	for _, mask := range damaged() {
		b := newBuilder(mask)
		x := b.full(12)
		s := b.State()
		check(t, s, x, mask, api.OK)
		for _, r := range hashed(s, x) {
			n := s.Nodes[r-1]
			for bit := range 64 {
				s.Nodes[r-1].Hash = n.Hash ^ 1<<bit
				check(t, s, x, mask, api.ErrState)
			}
			s.Nodes[r-1].Hash = n.Hash
			if n.Kind == api.KindL {
				continue
			}
			for _, other := range []string{"", "other", "another", n.Key + "x", "\xff"} {
				s.Nodes[r-1].Key = other
				want := api.ErrState
				if keyhash.Hash(other, mask) == n.Hash {
					want = api.OK
				}
				check(t, s, x, mask, want)
			}
			s.Nodes[r-1].Key = n.Key
		}
		check(t, s, x, mask, api.OK)
	}
}

// P10.1, condition 4: in tries of many keys, each Gen counts. All of them are equal, so that an I-node may be older, if
// no I-node is below it, but not newer.
func TestEachGenerationCounts(t *testing.T) {
	for _, mask := range damaged() {
		b := newBuilder(mask)
		x := b.full(12)
		s := b.State()
		inner, _ := view.Inner(s, x)
		for i, in := range inner {
			newer, older := api.ErrState, api.OK
			if i == 0 {
				newer = api.OK
			}
			for _, r := range s.Nodes[b.mainOf(in)-1].Branches {
				if s.Nodes[r-1].Kind == api.KindI {
					older = api.ErrState
				}
			}
			s.Nodes[in-1].Gen = usual + 1
			check(t, s, x, mask, newer)
			s.Nodes[in-1].Gen = usual - 1
			check(t, s, x, mask, older)
			s.Nodes[in-1].Gen = usual
		}
		check(t, s, x, mask, api.OK)
	}
}

// checkReplaced reports an error if Check does not return want while the main node m of a trie is another one.
func checkReplaced(t *testing.T, s api.State, x api.Trie, mask uint64, m api.Ref, other api.Node, want api.Errno) {
	t.Helper()
	n := s.Nodes[m-1]
	other.Prev = n.Prev
	s.Nodes[m-1] = other
	if e := shape.Check(s, x, mask); e != want {
		t.Fatalf("mask %x: with %+v in the place of %+v Check is %d, want %d", mask, other, n, e, want)
	}
	s.Nodes[m-1] = n
}

// P10.1, condition 3: in tries of many keys, each branch that is moved to the next free index is out of its place, be it
// a single or an I-node.
func TestEachIndexCounts(t *testing.T) {
	for _, mask := range damaged() {
		b := newBuilder(mask)
		x := b.full(12)
		s := b.State()
		for _, m := range mainsOf(s, x) {
			for index := range 64 {
				r, ok := branch.Lookup(s.Nodes[m-1], index)
				if !ok {
					continue
				}
				rest, _ := branch.Removed(s.Nodes[m-1], index)
				for to := range 64 {
					moved, ok := branch.Inserted(rest, to, r)
					switch {
					case !ok:
					case to == index:
						checkReplaced(t, s, x, mask, m, moved, api.OK)
					default:
						checkReplaced(t, s, x, mask, m, moved, api.ErrState)
					}
				}
			}
		}
	}
}

// The consequences: an additional branch with a key that the trie has already, or without any pair, makes a trie that is
// not well-formed, wherever there is place for one.
func TestNoKeyTwiceAndNoneMissing(t *testing.T) {
	for _, mask := range damaged() {
		b := newBuilder(mask)
		x := b.full(12)
		extra := []api.Ref{b.single(key(7)), b.inner(usual, b.tomb(key(7))), b.inner(usual, b.fork(nil))}
		s := b.State()
		for _, m := range mainsOf(s, x) {
			for index := range 64 {
				for _, r := range extra {
					if more, ok := branch.Inserted(s.Nodes[m-1], index, r); ok {
						checkReplaced(t, s, x, mask, m, more, api.ErrState)
					}
				}
			}
		}
	}
}

// P10.1: in tries of many keys, no main node can be replaced by an empty C-node, but that of the root, nor by a tomb or
// a list of keys of another place.
func TestEachMainNodeCounts(t *testing.T) {
	for _, mask := range damaged() {
		b := newBuilder(mask)
		x := b.full(12)
		s := b.State()
		for i, m := range mainsOf(s, x) {
			want := api.ErrState
			if i == 0 {
				want = api.OK
			}
			wrong := keyhash.Hash("k", mask) ^ 1<<63
			checkReplaced(t, s, x, mask, m, node.Empty(), want)
			checkReplaced(t, s, x, mask, m, node.Tomb(wrong, "k", 1), api.ErrState)
			checkReplaced(t, s, x, mask, m, node.List(wrong, []api.Pair{{Key: "k"}, {Key: "l"}}), api.ErrState)
		}
		check(t, s, x, mask, api.OK)
	}
}

// P10.1: what is not in the trie does not count, be it well-formed or not.
func TestOtherTries(t *testing.T) {
	b := newBuilder(63)
	x := b.full(20)
	other := b.at(b.tomb("a"), nil)
	for range 2 {
		check(t, b.State(), x, 63, api.OK)
		check(t, b.State(), other, 63, api.ErrState)
		none := b.trie(b.single("a"))
		checkInvalid(t, b.State(), none, 63)
	}
}

// P10.1, P10.2: a trie of very many keys. (It takes very long if a call reads the whole state for each I-node.)
func TestLargeTrie(t *testing.T) {
	const count = 20000
	b := newBuilder(math.MaxUint64)
	x := b.full(count)
	s := b.State()
	if e := shape.Check(s, x, b.mask); e != api.OK {
		t.Errorf("Check is %d", e)
	}
	if d := shape.Depth(s, x); d < 3 || d > 7 {
		t.Errorf("Depth is %d", d)
	}
	if !shape.Quiet(s, x) {
		t.Errorf("the trie is not quiet")
	}
	r := b.Load(x.Root)
	last := b.Node(b.mainOf(r)).Branches[63]
	b.set(b.Node(last).Main, b.Alloc(b.Node(b.mainOf(last)), b.mainOf(last)))
	if s := b.State(); shape.Check(s, x, b.mask) != api.OK || shape.Quiet(s, x) {
		t.Errorf("the trie is not well-formed, or is quiet, while a main node is pending")
	}
}
