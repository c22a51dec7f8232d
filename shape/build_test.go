package shape_test

import (
	"math"
	"slices"
	"strconv"
	"testing"

	"ctrie/api"
	"ctrie/arena"
	"ctrie/branch"
	"ctrie/dual"
	"ctrie/keyhash"
	"ctrie/node"
	"ctrie/shape"
	"ctrie/statetest"
	"ctrie/tomb"
)

// latest is the latest generation of the states that the tests build, and usual the one of most of their I-nodes.
const (
	latest = 9
	usual  = 5
)

// lows is a mask with the lowest bit of each slice, so that there are keys for each way through the levels.
const lows = 1 | 1<<6 | 1<<12 | 1<<18 | 1<<24 | 1<<30 | 1<<36 | 1<<42 | 1<<48 | 1<<54 | 1<<60

// masks are masks of all kinds.
func masks() []uint64 {
	return []uint64{0, 1, 63, 63 << 6, 15 << 60, 1 << 63, 63 | 15<<60, lows, 3 * lows, 63 << 30, math.MaxUint64, math.MaxUint64 &^ 63}
}

// checkCall reports an error if a call does not return want each time, or changes the state.
func checkCall[T comparable](t *testing.T, call func(s api.State, x api.Trie) T, s api.State, x api.Trie, want T) {
	t.Helper()
	before := statetest.Copied(s)
	for range 2 {
		if got := call(s, x); got != want {
			t.Fatalf("the result for %+v is %v, want %v", x, got, want)
		}
		x.ReadOnly = !x.ReadOnly
	}
	if !statetest.Same(s, before) {
		t.Fatalf("the state is changed to %+v, from %+v", s, before)
	}
}

// check reports an error if Check does not return want each time, or changes the state.
func check(t *testing.T, s api.State, x api.Trie, mask uint64, want api.Errno) {
	t.Helper()
	checkCall(t, func(s api.State, x api.Trie) api.Errno { return shape.Check(s, x, mask) }, s, x, want)
}

// checkQuiet reports an error if Quiet does not return want each time, or changes the state.
func checkQuiet(t *testing.T, s api.State, x api.Trie, want bool) {
	t.Helper()
	checkCall(t, shape.Quiet, s, x, want)
}

// checkDepth reports an error if Depth does not return want each time, or changes the state.
func checkDepth(t *testing.T, s api.State, x api.Trie, want int) {
	t.Helper()
	checkCall(t, shape.Depth, s, x, want)
}

// checkGood reports an error if a trie is not well-formed and quiet, with a depth.
func checkGood(t *testing.T, s api.State, x api.Trie, mask uint64, depth int) {
	t.Helper()
	check(t, s, x, mask, api.OK)
	checkQuiet(t, s, x, true)
	checkDepth(t, s, x, depth)
}

// checkInvalid reports an error if the three functions do not return what they do where Inner returns an error.
func checkInvalid(t *testing.T, s api.State, x api.Trie, mask uint64) {
	t.Helper()
	check(t, s, x, mask, api.ErrInvalid)
	checkQuiet(t, s, x, false)
	checkDepth(t, s, x, -1)
}

// builder is an arena in which tries are built for a mask, from the lowest node upwards.
type builder struct {
	*arena.Arena
	mask uint64
}

// newBuilder returns an arena that has nodes of no trie, which break every condition, and a cell of no trie.
func newBuilder(mask uint64) *builder {
	b := &builder{arena.New(), mask}
	for range latest {
		b.NewGen()
	}
	b.NewCell(b.Alloc(node.Single(77, "nowhere", 77), 0))
	odd := b.inner(1, b.fork(map[int]api.Ref{9: 3}))
	b.NewCell(b.inner(1, b.fork(map[int]api.Ref{3: b.inner(2, b.fork(nil)), 4: odd})))
	return b
}

// hash returns the hash value of a key.
func (b *builder) hash(key string) uint64 {
	return keyhash.Hash(key, b.mask)
}

// single allocates the single of a key.
func (b *builder) single(key string) api.Ref {
	return b.Alloc(node.Single(b.hash(key), key, 1), 0)
}

// tomb allocates the tomb of a key.
func (b *builder) tomb(key string) api.Ref {
	return b.Alloc(node.Tomb(b.hash(key), key, 2), 0)
}

// list allocates the collision list of several keys, with the hash value of the first one.
func (b *builder) list(keys ...string) api.Ref {
	return b.listWith(b.hash(keys[0]), keys...)
}

// listWith allocates a collision list with a hash value.
func (b *builder) listWith(hash uint64, keys ...string) api.Ref {
	var l []api.Pair
	for _, key := range keys {
		l = append(l, api.Pair{Key: key, Value: 3})
	}
	slices.SortFunc(l, func(p, q api.Pair) int {
		if p.Key < q.Key {
			return -1
		}
		return 1
	})
	return b.Alloc(node.List(hash, l), 0)
}

// fork allocates a C-node with branches at indices.
func (b *builder) fork(branches map[int]api.Ref) api.Ref {
	c := node.Empty()
	for i := range 64 {
		if r, ok := branches[i]; ok {
			c, _ = branch.Inserted(c, i, r)
		}
	}
	return b.Alloc(c, 0)
}

// fan allocates a C-node with the singles of several keys at their slices of a level.
func (b *builder) fan(level int, keys ...string) api.Ref {
	branches := map[int]api.Ref{}
	for _, key := range keys {
		branches[keyhash.Slice(b.hash(key), level)] = b.single(key)
	}
	return b.fork(branches)
}

// inner allocates an I-node with a main node.
func (b *builder) inner(gen int, m api.Ref) api.Ref {
	return b.Alloc(node.Inner(gen), m)
}

// trie returns a new trie with a root.
func (b *builder) trie(r api.Ref) api.Trie {
	return api.Trie{Root: b.NewCell(r)}
}

// way returns the slices of a hash value of the levels above a level.
func way(hash uint64, level int) []int {
	var l []int
	for range level {
		l = append(l, int(hash%64))
		hash /= 64
	}
	return l
}

// above allocates C-nodes with one branch each, and I-nodes of a generation with these, above an I-node. It returns the
// root, from which the way leads down to the I-node.
func (b *builder) above(in api.Ref, gen int, way []int) api.Ref {
	for _, index := range slices.Backward(way) {
		in = b.inner(gen, b.fork(map[int]api.Ref{index: in}))
	}
	return in
}

// at returns a new trie in which an I-node with the main node m is at the end of a way from the root.
func (b *builder) at(m api.Ref, way []int) api.Trie {
	return b.trie(b.above(b.inner(usual, m), usual, way))
}

// mainOf returns the contents of Main of an I-node.
func (b *builder) mainOf(in api.Ref) api.Ref {
	return b.Load(b.Node(in).Main)
}

// set changes the contents of a cell.
func (b *builder) set(c api.Cell, r api.Ref) {
	b.CAS(c, b.Load(c), r)
}

// key returns the key that the tests give a number.
func key(i int) string {
	return "k" + strconv.Itoa(i)
}

// keysWith returns keys whose hash values for a mask have equal slices above a level, and different ones there, or are
// equal for level 11. It returns nil if there are not as many.
func keysWith(mask uint64, level, count int) []string {
	groups, taken := map[uint64][]string{}, map[[2]uint64]bool{}
	for i := range 20000 {
		h := keyhash.Hash(key(i), mask)
		prefix := h & (1<<(6*level) - 1)
		if slice := [2]uint64{prefix, h >> (6 * level) % 64}; level < api.MaxLevel && taken[slice] {
			continue
		} else {
			taken[slice] = true
		}
		groups[prefix] = append(groups[prefix], key(i))
		// A prefix other than 0 tells more, where the mask has one.
		if len(groups[prefix]) == count && (prefix != 0 || mask&(1<<(6*level)-1) == 0) {
			return groups[prefix]
		}
	}
	return nil
}

// insert adds a key to a well-formed trie below an I-node of a level.
func (b *builder) insert(in api.Ref, level int, key string) {
	n := b.Node(b.mainOf(in))
	if n.Kind == api.KindL {
		n, _ = tomb.Grown(n, key, 1)
		b.set(b.Node(in).Main, b.Alloc(n, 0))
		return
	}
	index := keyhash.Slice(b.hash(key), level)
	r, ok := branch.Lookup(n, index)
	switch {
	case !ok:
		n, _ = branch.Inserted(n, index, b.single(key))
	case b.Node(r).Kind == api.KindI:
		b.insert(r, level+1, key)
		return
	default:
		below, _ := dual.Build(b, r, b.hash(key), key, 1, level+1, b.Node(in).Gen)
		n, _ = branch.Updated(n, index, b.inner(b.Node(in).Gen, below))
	}
	b.set(b.Node(in).Main, b.Alloc(n, 0))
}

// full returns a well-formed trie with as many keys.
func (b *builder) full(count int) api.Trie {
	r := b.inner(usual, b.fork(nil))
	for i := range count {
		b.insert(r, 0, key(i))
	}
	return b.trie(r)
}
