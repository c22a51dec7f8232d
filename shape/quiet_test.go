package shape_test

import (
	"testing"

	"ctrie/api"
	"ctrie/node"
)

// P10.2: the cell Root contains a descriptor, decided either way, undecided, or with another Status. Its root counts for
// Check and Depth, and is well-formed or not, but the trie is not quiet. It is once the cell contains an I-node.
func TestDescriptor(t *testing.T) {
	b := newBuilder(63)
	flat, deep := b.at(b.fan(0, "a"), nil), b.at(b.tomb("b"), way(b.hash("b"), 4))
	bad := b.at(b.tomb("a"), way(b.hash("b"), 2))
	roots := []api.Ref{b.Load(flat.Root), b.Load(deep.Root), b.Load(bad.Root)}
	depths := []int{0, 4, 2}
	errs := []api.Errno{api.OK, api.OK, api.ErrState}
	for i, old := range roots {
		for j, new := range roots {
			for _, status := range []api.Ref{0, api.Yes, api.No, old, 3} {
				x := b.trie(b.Alloc(node.Desc(old, b.mainOf(old), new), status))
				want := i
				if status == api.Yes {
					want = j
				}
				check(t, b.State(), x, 63, errs[want])
				checkDepth(t, b.State(), x, depths[want])
				checkQuiet(t, b.State(), x, false)
				b.set(x.Root, roots[want])
				check(t, b.State(), x, 63, errs[want])
				checkQuiet(t, b.State(), x, true)
			}
		}
	}
}

// P10.1, P10.2: a main node that is pending, or has failed, at each level of a way: the one that it was to replace counts
// for Check and Depth, but the trie is not quiet until the Prev contains 0, and then it is the new one that counts.
func TestPendingAndFailed(t *testing.T) {
	for level := range 12 {
		for at := range level + 1 {
			b := newBuilder(lows)
			m := b.fan(0, "a")
			if level > 0 {
				m = b.tomb("a")
			}
			x := b.at(m, way(b.hash("a"), level))
			in := b.Load(x.Root)
			for range at {
				in = b.Node(b.mainOf(in)).Branches[0]
			}
			checkPending(t, b, x, in, level, at)
		}
	}
}

// checkPending reports an error if a trie of a depth is not as it was while the main node of an I-node of a level is
// pending or has failed, or is quiet then.
func checkPending(t *testing.T, b *builder, x api.Trie, in api.Ref, depth, level int) {
	t.Helper()
	old := b.mainOf(in)
	bad := b.Node(b.fork(map[int]api.Ref{7: b.single("b"), 8: b.single("c")}))
	good := b.Node(old)
	for _, n := range []api.Node{bad, good} {
		want := api.OK
		if n.Bitmap == bad.Bitmap {
			want = api.ErrState
		}
		for _, prev := range []api.Ref{old, b.Alloc(node.Failed(old), 0)} {
			new := b.Alloc(n, prev)
			b.set(b.Node(in).Main, new)
			check(t, b.State(), x, lows, api.OK)
			checkDepth(t, b.State(), x, depth)
			checkQuiet(t, b.State(), x, false)
			b.set(b.Node(new).Prev, 0)
			check(t, b.State(), x, lows, want)
			checkQuiet(t, b.State(), x, true)
			if want != api.OK {
				checkDepth(t, b.State(), x, level)
			}
			b.set(b.Node(in).Main, old)
			checkGood(t, b.State(), x, lows, depth)
		}
	}
}

// P10.2: the Prev of main nodes that are in no cell Main of the trie does not count: what was replaced, what a pending
// main node has below it, and other tries.
func TestPrevOfOthers(t *testing.T) {
	b := newBuilder(63)
	x := b.at(b.fan(0, "a", "b"), nil)
	r := b.Load(x.Root)
	old := b.mainOf(r)
	y := b.at(b.Alloc(b.Node(old), b.tomb("c")), nil)
	b.set(b.Node(old).Prev, b.fork(nil))
	b.set(b.Node(r).Main, b.fan(0, "c"))
	checkGood(t, b.State(), x, 63, 0)
	checkQuiet(t, b.State(), y, false)
	check(t, b.State(), y, 63, api.ErrState)
}

// P10.2: an I-node below a committed main node is one of the trie, whose Prev counts, and one below a main node that is
// pending is not. There the pending one counts itself.
func TestPendingBelow(t *testing.T) {
	b := newBuilder(0)
	settled, pending := b.tomb("a"), b.Alloc(b.Node(b.tomb("a")), b.tomb("b"))
	for _, below := range []api.Ref{settled, pending} {
		x := b.at(below, way(0, 2))
		check(t, b.State(), x, 0, api.OK)
		checkQuiet(t, b.State(), x, below == settled)
		checkDepth(t, b.State(), x, 2)
	}
	r := b.inner(usual, b.fork(nil))
	m := b.Alloc(b.Node(b.fork(map[int]api.Ref{0: b.inner(usual, pending)})), b.mainOf(r))
	b.set(b.Node(r).Main, m)
	x := b.trie(r)
	check(t, b.State(), x, 0, api.OK)
	checkQuiet(t, b.State(), x, false)
	checkDepth(t, b.State(), x, 0)
	b.set(b.Node(m).Prev, 0)
	checkQuiet(t, b.State(), x, false)
	checkDepth(t, b.State(), x, 1)
	b.set(b.Node(pending).Prev, 0)
	checkGood(t, b.State(), x, 0, 1)
}

// P10.2: one main node among many is pending, at the first branch, the last one, or between.
func TestOneOfManyPending(t *testing.T) {
	const mask = 63
	for pending := -1; pending < 64; pending++ {
		b := newBuilder(mask)
		branches := map[int]api.Ref{}
		for i := range 2000 {
			index := int(b.hash(key(i)))
			if branches[index] != 0 {
				continue
			}
			prev := api.Ref(0)
			if index == pending {
				prev = b.tomb(key(i))
			}
			branches[index] = b.inner(usual, b.Alloc(node.Tomb(b.hash(key(i)), key(i), 1), prev))
		}
		x := b.at(b.fork(branches), nil)
		check(t, b.State(), x, mask, api.OK)
		checkDepth(t, b.State(), x, 1)
		checkQuiet(t, b.State(), x, pending < 0)
	}
}

// P10.2: Quiet and Depth do not ask whether a trie is well-formed.
func TestQuietAndDepthOfBrokenTries(t *testing.T) {
	b := newBuilder(0)
	for _, in := range b.broken() {
		x := b.trie(in)
		checkQuiet(t, b.State(), x, true)
		checkDepth(t, b.State(), x, 0)
		x = b.at(b.fork(map[int]api.Ref{0: in, 63: b.inner(latest, b.fork(nil)), 62: b.single("x")}), nil)
		check(t, b.State(), x, 0, api.ErrState)
		checkQuiet(t, b.State(), x, true)
		checkDepth(t, b.State(), x, 1)
	}
}

// P10.2: the greatest level counts, not that of the last I-node, nor the number of I-nodes.
func TestDepthOfBranches(t *testing.T) {
	for first := range 11 {
		for second := range 11 {
			b := newBuilder(lows)
			keys := keysWith(lows, 0, 2)
			tower := func(key string, levels int) api.Ref {
				return b.above(b.inner(usual, b.tomb(key)), usual, way(b.hash(key), levels+1)[1:])
			}
			x := b.at(b.fork(map[int]api.Ref{
				int(b.hash(keys[0]) % 64): tower(keys[0], first),
				int(b.hash(keys[1]) % 64): tower(keys[1], second),
			}), nil)
			checkGood(t, b.State(), x, lows, 1+max(first, second))
		}
	}
}
