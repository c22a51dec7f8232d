package view_test

import (
	"math"
	"math/rand"
	"slices"
	"strconv"
	"strings"
	"testing"

	"ctrie/api"
	"ctrie/arena"
	"ctrie/branch"
	"ctrie/dual"
	"ctrie/keyhash"
	"ctrie/node"
	"ctrie/statetest"
	"ctrie/tomb"
	"ctrie/view"
)

// checkVisit reports an error if Contents does not return the pairs and Inner not the I-nodes, each time.
func checkVisit(t *testing.T, s api.State, x api.Trie, pairs []api.Pair, inner []api.Ref) {
	t.Helper()
	before := statetest.Copied(s)
	for range 2 {
		if got, e := view.Contents(s, x); e != api.OK || !slices.Equal(got, pairs) {
			t.Fatalf("Contents of %+v are %v, %d, want %v", x, got, e, pairs)
		}
		if got, e := view.Inner(s, x); e != api.OK || !slices.Equal(got, inner) {
			t.Fatalf("Inner of %+v is %v, %d, want %v", x, got, e, inner)
		}
		x.ReadOnly = !x.ReadOnly
	}
	if !statetest.Same(s, before) {
		t.Fatalf("the state is changed to %+v, from %+v", s, before)
	}
}

// checkInvalid reports an error if Contents or Inner does not return ErrInvalid and nothing else, each time.
func checkInvalid(t *testing.T, s api.State, x api.Trie) {
	t.Helper()
	before := statetest.Copied(s)
	for range 2 {
		if got, e := view.Contents(s, x); e != api.ErrInvalid || len(got) != 0 {
			t.Fatalf("Contents of %+v are %v, %d, want ErrInvalid", x, got, e)
		}
		if got, e := view.Inner(s, x); e != api.ErrInvalid || len(got) != 0 {
			t.Fatalf("Inner of %+v is %v, %d, want ErrInvalid", x, got, e)
		}
		x.ReadOnly = !x.ReadOnly
	}
	if !statetest.Same(s, before) {
		t.Fatalf("the state is changed to %+v, from %+v", s, before)
	}
}

// builder is an arena in which tries are built from the lowest node upwards.
type builder struct {
	*arena.Arena
}

// newBuilder returns an arena with a node and a cell that belong to no trie.
func newBuilder() builder {
	b := builder{arena.New()}
	b.Alloc(node.Single(1, "other", 1), 0)
	b.NewCell(3)
	b.NewGen()
	return b
}

// pair returns the pair that the tests give a number.
func pair(i int) api.Pair {
	return api.Pair{Key: "k" + strconv.Itoa(i), Value: uint64(1000 + i)}
}

// pairs returns the pairs of several numbers.
func pairs(l ...int) []api.Pair {
	var all []api.Pair
	for _, i := range l {
		all = append(all, pair(i))
	}
	return all
}

// single allocates the single of a number.
func (b builder) single(i int) api.Ref {
	return b.Alloc(node.Single(uint64(i), pair(i).Key, pair(i).Value), 0)
}

// tomb allocates an I-node with the tomb of a number.
func (b builder) tomb(i int) api.Ref {
	return b.inner(b.Alloc(node.Tomb(uint64(i), pair(i).Key, pair(i).Value), 0))
}

// list allocates an I-node with the collision list of several numbers.
func (b builder) list(l ...int) api.Ref {
	return b.inner(b.Alloc(node.List(uint64(l[0]), pairs(l...)), 0))
}

// inner allocates an I-node with the main node m.
func (b builder) inner(m api.Ref) api.Ref {
	return b.Alloc(node.Inner(1), m)
}

// fork allocates a C-node with branches at indices.
func (b builder) fork(branches map[int]api.Ref) api.Ref {
	c := api.Node{Kind: api.KindC}
	for i := range 64 {
		if r, ok := branches[i]; ok {
			c.Bitmap |= 1 << i
			c.Branches = append(c.Branches, r)
		}
	}
	return b.Alloc(c, 0)
}

// forked allocates an I-node whose C-node has branches at indices.
func (b builder) forked(branches map[int]api.Ref) api.Ref {
	return b.inner(b.fork(branches))
}

// trie returns a new trie with a root.
func (b builder) trie(r api.Ref) api.Trie {
	return api.Trie{Root: b.NewCell(r)}
}

// mainOf returns the cell Main of an I-node.
func (b builder) mainOf(in api.Ref) api.Cell {
	return b.Node(in).Main
}

// set changes the contents of a cell.
func (b builder) set(c api.Cell, r api.Ref) {
	b.CAS(c, b.Load(c), r)
}

// P9.2, example 1: the empty trie.
func TestEmptyTrie(t *testing.T) {
	a := arena.New()
	c := a.Alloc(node.Empty(), 0)
	r := a.Alloc(node.Inner(a.NewGen()), c)
	x := api.Trie{Root: a.NewCell(r)}
	checkVisit(t, a.State(), x, nil, []api.Ref{r})
	if r != 4 || x.Root != 3 {
		t.Errorf("the I-node is %d and the cell %d, want 4 and 3", r, x.Root)
	}
}

// P9.2: the main node of the root is a tomb, a collision list, or a C-node with singles alone.
func TestOneLevel(t *testing.T) {
	b := newBuilder()
	for _, c := range []struct {
		root api.Ref
		want []api.Pair
	}{
		{b.tomb(7), pairs(7)},
		{b.list(2, 3), pairs(2, 3)},
		{b.list(1, 2, 3, 4, 5, 6, 7, 8, 9), pairs(1, 2, 3, 4, 5, 6, 7, 8, 9)},
		{b.forked(nil), nil},
		{b.forked(map[int]api.Ref{0: b.single(4)}), pairs(4)},
		{b.forked(map[int]api.Ref{63: b.single(4)}), pairs(4)},
		{b.forked(map[int]api.Ref{63: b.single(1), 0: b.single(9), 31: b.single(5)}), pairs(9, 5, 1)},
	} {
		x := b.trie(c.root)
		checkVisit(t, b.State(), x, c.want, []api.Ref{c.root})
	}
}

// P9.2: a C-node with a single at every index, and one with an I-node at every index, whose numbers descend.
func TestAllIndices(t *testing.T) {
	b := newBuilder()
	singles, tombs := map[int]api.Ref{}, map[int]api.Ref{}
	var all []int
	inner := make([]api.Ref, 64)
	for i := 63; i >= 0; i-- {
		singles[i], tombs[i] = b.single(i), b.tomb(i)
		inner[i] = tombs[i]
	}
	for i := range 64 {
		all = append(all, i)
	}
	r := b.forked(singles)
	x := b.trie(r)
	checkVisit(t, b.State(), x, pairs(all...), []api.Ref{r})
	r = b.forked(tombs)
	x = b.trie(r)
	checkVisit(t, b.State(), x, pairs(all...), append([]api.Ref{r}, inner...))
}

// P9.2: several levels. Singles stand between I-nodes, tombs and collision lists in their own place, and an I-node comes
// before those below it, which come before its neighbours. The numbers of nodes do not count, nor do hash values or keys.
func TestSeveralLevels(t *testing.T) {
	b := newBuilder()
	right := b.forked(map[int]api.Ref{9: b.single(14), 3: b.single(13)})
	low := b.forked(map[int]api.Ref{40: b.single(9), 50: b.tomb(10)})
	middle := b.forked(map[int]api.Ref{0: b.single(3), 1: b.list(4, 5, 6), 2: b.tomb(7), 3: b.single(8), 4: low, 63: b.single(11)})
	empty := b.forked(nil)
	r := b.forked(map[int]api.Ref{0: b.tomb(1), 1: b.single(2), 5: middle, 6: empty, 7: b.single(12), 62: right, 63: b.list(15, 16)})
	x := b.trie(r)
	want := pairs(1, 2, 3, 4, 5, 6, 7, 8, 9, 10, 11, 12, 13, 14, 15, 16)
	first, _ := branch.Lookup(b.Node(b.Load(b.mainOf(r))), 0)
	last, _ := branch.Lookup(b.Node(b.Load(b.mainOf(r))), 63)
	list, _ := branch.Lookup(b.Node(b.Load(b.mainOf(middle))), 1)
	tomb, _ := branch.Lookup(b.Node(b.Load(b.mainOf(middle))), 2)
	lowest, _ := branch.Lookup(b.Node(b.Load(b.mainOf(low))), 50)
	checkVisit(t, b.State(), x, want, []api.Ref{r, first, middle, list, tomb, low, lowest, empty, right, last})
}

// P9.2: pairs are what their nodes have, whatever their hash values are: keys and values at their limits, equal keys, and
// keys out of order.
func TestPairs(t *testing.T) {
	b := newBuilder()
	longest := strings.Repeat("k", api.MaxKey)
	two := []api.Pair{{Key: "", Value: 0}, {Key: longest, Value: math.MaxUint64}}
	branches := map[int]api.Ref{
		2: b.Alloc(node.Single(9, longest, math.MaxUint64), 0),
		3: b.Alloc(node.Single(8, "", 0), 0),
		4: b.Alloc(node.Single(8, "\xff", 1), 0),
		5: b.inner(b.Alloc(node.Tomb(7, longest, math.MaxUint64), 0)),
		6: b.inner(b.Alloc(node.Tomb(6, "", 0), 0)),
		7: b.inner(b.Alloc(node.List(5, two), 0)),
	}
	r := b.forked(branches)
	x := b.trie(r)
	checkVisit(t, b.State(), x, []api.Pair{two[1], two[0], {Key: "\xff", Value: 1}, two[1], two[0], two[0], two[1]},
		[]api.Ref{r, branches[5], branches[6], branches[7]})
}

// P9.2: a single in several places, and a main node of several I-nodes, count in each place; only I-nodes may not.
func TestSharedNodes(t *testing.T) {
	b := newBuilder()
	s, c := b.single(1), b.Alloc(node.Empty(), 0)
	m := b.fork(map[int]api.Ref{1: s, 2: b.single(2)})
	l := b.Alloc(node.List(1, pairs(3, 4)), 0)
	d := b.Alloc(node.Tomb(1, pair(5).Key, pair(5).Value), 0)
	var all []api.Ref
	branches := map[int]api.Ref{8: s, 9: s}
	for i, r := range []api.Ref{m, m, l, l, d, d, c, c} {
		branches[i] = b.inner(r)
		all = append(all, branches[i])
	}
	r := b.forked(branches)
	x := b.trie(r)
	checkVisit(t, b.State(), x, pairs(1, 2, 1, 2, 3, 4, 3, 4, 5, 5, 1, 1), append([]api.Ref{r}, all...))
}

// spec describes a main node and what is below it, or a single.
type spec struct {
	kind  int
	nums  []int
	at    map[int]*spec
	inner api.Ref
}

// maker makes specs by chance, from the same seed each time.
type maker struct {
	*rand.Rand
	last int
}

// nums returns the next numbers.
func (m *maker) nums(n int) []int {
	var l []int
	for range n {
		m.last++
		l = append(l, 100000+m.last)
	}
	return l
}

// main makes a main node of a level.
func (m *maker) main(level int) *spec {
	if level > 0 && m.Intn(3) == 0 {
		if m.Intn(2) == 0 {
			return &spec{kind: api.KindT, nums: m.nums(1)}
		}
		return &spec{kind: api.KindL, nums: m.nums(2 + m.Intn(3))}
	}
	x := &spec{kind: api.KindC, at: map[int]*spec{}}
	indices := m.Perm(64)[:m.Intn(6)]
	slices.Sort(indices)
	for _, i := range indices {
		if level < api.MaxLevel && m.Intn(2) == 0 {
			x.at[i] = m.main(level + 1)
		} else {
			x.at[i] = &spec{kind: api.KindS, nums: m.nums(1)}
		}
	}
	return x
}

// alloc allocates what a spec describes, in another order than that of the indices, and returns its main node or single.
// The I-nodes have main nodes that are committed, pending and failed.
func (m *maker) alloc(b builder, x *spec) api.Ref {
	switch x.kind {
	case api.KindS:
		return b.single(x.nums[0])
	case api.KindT:
		return b.Alloc(node.Tomb(1, pair(x.nums[0]).Key, pair(x.nums[0]).Value), 0)
	case api.KindL:
		return b.Alloc(node.List(1, pairs(x.nums...)), 0)
	}
	branches := map[int]api.Ref{}
	for _, i := range m.Perm(64) {
		if x.at[i] == nil {
			continue
		}
		branches[i] = m.alloc(b, x.at[i])
		if x.at[i].kind != api.KindS {
			branches[i] = m.innerWith(b, branches[i])
			x.at[i].inner = branches[i]
		}
	}
	return b.fork(branches)
}

// innerWith allocates an I-node whose main node is r, while Main contains r or another main node.
func (m *maker) innerWith(b builder, r api.Ref) api.Ref {
	other := node.List(3, pairs(1, 2))
	switch m.Intn(4) {
	case 0:
		return b.inner(b.Alloc(other, r))
	case 1:
		return b.inner(b.Alloc(other, b.Alloc(node.Failed(r), 0)))
	}
	return b.inner(r)
}

// expect adds the pairs and the I-nodes below an I-node to lists.
func (x *spec) expect(p []api.Pair, in []api.Ref) ([]api.Pair, []api.Ref) {
	if x.kind != api.KindS {
		in = append(in, x.inner)
	}
	p = append(p, pairs(x.nums...)...)
	for i := range 64 {
		if x.at[i] != nil {
			p, in = x.at[i].expect(p, in)
		}
	}
	return p, in
}

// P9.2: tries of all forms, with main nodes that are committed, pending and failed, and roots behind descriptors.
func TestGeneratedTries(t *testing.T) {
	m := &maker{Rand: rand.New(rand.NewSource(9))}
	inner, pairs, deepest := 0, 0, 0
	for i := range 400 {
		b, x := newBuilder(), m.main(0)
		x.inner = m.innerWith(b, m.alloc(b, x))
		other := b.tomb(1)
		trie := b.trie(x.inner)
		switch i % 4 {
		case 1:
			d := b.Alloc(node.Desc(other, other, x.inner), api.Yes)
			b.set(trie.Root, d)
		case 2:
			d := b.Alloc(node.Desc(x.inner, other, other), []api.Ref{0, api.No, other}[i%3])
			b.set(trie.Root, d)
		}
		wantPairs, wantInner := x.expect(nil, nil)
		checkVisit(t, b.State(), trie, wantPairs, wantInner)
		inner, pairs, deepest = inner+len(wantInner), pairs+len(wantPairs), max(deepest, x.depth())
	}
	if inner < 1000 || pairs < 1000 || deepest < 5 {
		t.Errorf("there are only %d I-nodes, %d pairs and %d levels", inner, pairs, deepest)
	}
}

// depth returns the number of levels below a spec.
func (x *spec) depth() int {
	n := 0
	for _, y := range x.at {
		n = max(n, 1+y.depth())
	}
	return n
}

// nested allocates a C-node at every one of some levels above a branch, which has singles and tombs before and behind it,
// and returns the I-node above all of it, or the branch for no level. There is a single among the branches at least.
func (b builder) nested(r api.Ref, levels, index int) api.Ref {
	for range levels {
		branches := map[int]api.Ref{1: b.single(1), 62: b.single(2), 2: b.tomb(3), 61: b.tomb(4)}
		branches[index] = r
		r = b.forked(branches)
	}
	return r
}

// checkPlaces reports an error if a branch does not make a trie invalid in each of several places, or the root of one.
func checkPlaces(t *testing.T, b builder, r api.Ref) {
	t.Helper()
	for _, index := range []int{0, 2, 30, 63} {
		for _, levels := range []int{0, 1, 2, 3, 11} {
			// A copy, so that the state does not grow from place to place.
			c := builder{b.Copy()}
			x := c.trie(c.nested(r, levels, index))
			checkInvalid(t, c.State(), x)
		}
	}
}

// P9.2: ErrInvalid where Root is false: the cell does not exist, or contains no I-node and no descriptor of one.
func TestNoRoot(t *testing.T) {
	b := newBuilder()
	r := b.nested(b.tomb(7), 2, 5)
	s := b.single(8)
	x := b.trie(r)
	for _, c := range []api.Cell{math.MinInt, -1, 0, x.Root + 1, x.Root + 2, math.MaxInt} {
		checkInvalid(t, b.State(), api.Trie{Root: c})
	}
	m := b.Load(b.mainOf(r))
	for _, no := range []api.Ref{0, api.Yes, api.No, s, m, b.Load(b.mainOf(b.list(1, 2))), b.Load(b.mainOf(b.tomb(1))), b.Alloc(node.Failed(r), 0)} {
		x := b.trie(no)
		checkInvalid(t, b.State(), x)
		if no == 0 {
			continue
		}
		yes := b.trie(b.Alloc(node.Desc(r, m, no), api.Yes))
		checkInvalid(t, b.State(), yes)
		for _, status := range []api.Ref{0, api.No, r} {
			x := b.trie(b.Alloc(node.Desc(no, m, r), status))
			checkInvalid(t, b.State(), x)
		}
	}
	if l, e := view.Inner(b.State(), x); e != api.OK || l[0] != r {
		t.Errorf("Inner of the trie with a root is %v, %d", l, e)
	}
}

// P9.2: ErrInvalid where Main of an I-node is false, be it the root or any I-node: Main contains no main node, or one
// with something in Prev that tells of no main node.
func TestNoMain(t *testing.T) {
	b := newBuilder()
	r := b.tomb(7)
	m := b.Load(b.mainOf(r))
	d := b.Alloc(node.Desc(r, m, r), 0)
	f := b.Alloc(node.Failed(m), 0)
	for _, no := range []api.Ref{0, api.Yes, api.No, b.single(1), r, f, d} {
		checkPlaces(t, b, b.inner(no))
	}
	for _, no := range []api.Ref{api.Yes, api.No, b.single(1), r, d, b.Alloc(node.Failed(r), 0), b.Alloc(node.Failed(f), 0)} {
		checkPlaces(t, b, b.inner(b.Alloc(node.Empty(), no)))
		checkPlaces(t, b, b.inner(b.Alloc(node.Tomb(1, "k", 1), no)))
		checkPlaces(t, b, b.inner(b.Alloc(node.List(1, pairs(1, 2)), no)))
	}
}

// P9.2: a main node with something odd below it does not count where another one takes its place.
func TestOddButNotMain(t *testing.T) {
	b := newBuilder()
	odd := node.Empty()
	odd, _ = branch.Inserted(odd, 3, api.Yes)
	m := b.fork(map[int]api.Ref{3: b.single(1)})
	for _, prev := range []api.Ref{m, b.Alloc(node.Failed(m), 0)} {
		r := b.inner(b.Alloc(odd, prev))
		x := b.trie(r)
		checkVisit(t, b.State(), x, pairs(1), []api.Ref{r})
		b.set(b.Node(b.Load(b.mainOf(r))).Prev, 0)
		checkInvalid(t, b.State(), x)
	}
}

// P9.2: ErrInvalid for a branch that is neither a single nor an I-node, also where it is a main node.
func TestOddBranch(t *testing.T) {
	b := newBuilder()
	r := b.tomb(7)
	m := b.Load(b.mainOf(r))
	for _, no := range []api.Ref{
		api.Yes, api.No, m, b.Load(b.mainOf(b.list(1, 2))), b.fork(nil), b.fork(map[int]api.Ref{1: r}), b.Alloc(node.Failed(r), 0),
		b.Alloc(node.Failed(m), 0), b.Alloc(node.Desc(r, m, r), api.Yes), b.Alloc(api.Node{Kind: api.KindMark}, 0),
	} {
		checkPlaces(t, b, b.forked(map[int]api.Ref{0: no}))
		checkPlaces(t, b, b.forked(map[int]api.Ref{63: no, 0: b.single(1), 1: b.tomb(2)}))
		checkPlaces(t, b, b.forked(map[int]api.Ref{0: no, 63: b.single(1), 62: b.tomb(2)}))
	}
}

// P9.2: ErrInvalid for an I-node that occurs twice, in one C-node or in two, whatever its main node is.
func TestInnerTwice(t *testing.T) {
	b := newBuilder()
	for _, in := range []api.Ref{b.tomb(1), b.list(1, 2), b.forked(nil), b.forked(map[int]api.Ref{1: b.single(1)}), b.nested(b.tomb(1), 1, 0)} {
		checkPlaces(t, b, b.forked(map[int]api.Ref{0: in, 1: in}))
		checkPlaces(t, b, b.forked(map[int]api.Ref{0: in, 30: b.single(2), 31: b.tomb(3), 63: in}))
		checkPlaces(t, b, b.forked(map[int]api.Ref{5: in, 6: b.nested(in, 1, 30)}))
		checkPlaces(t, b, b.forked(map[int]api.Ref{5: b.nested(in, 1, 30), 6: in}))
		checkPlaces(t, b, b.forked(map[int]api.Ref{0: b.nested(in, 1, 30), 63: b.nested(in, 1, 30)}))
		checkPlaces(t, b, b.forked(map[int]api.Ref{0: b.nested(in, 3, 0), 63: b.nested(in, 1, 63)}))
		two := b.fork(map[int]api.Ref{1: b.single(1), 2: in})
		checkPlaces(t, b, b.forked(map[int]api.Ref{0: b.inner(two), 1: b.inner(two)}))
	}
}

// P9.2: ErrInvalid for an I-node that is below itself, directly or by a way of any length.
func TestInnerBelowItself(t *testing.T) {
	for levels := range 14 {
		for _, index := range []int{0, 30, 63} {
			b := newBuilder()
			in := b.inner(0)
			r := b.nested(in, levels, index)
			m := b.fork(map[int]api.Ref{3: b.single(5), 4: r, 5: b.single(6)})
			b.set(b.mainOf(in), m)
			for _, r := range []api.Ref{in, r, b.nested(in, 2, 30)} {
				x := b.trie(r)
				checkInvalid(t, b.State(), x)
			}
			// What is pending has not happened, so that an I-node is not below itself yet.
			if levels < api.MaxLevel {
				b.set(b.Node(m).Prev, b.fork(nil))
				x := b.trie(r)
				if l, e := view.Inner(b.State(), x); e != api.OK || !slices.Contains(l, in) {
					t.Errorf("pending: Inner is %v, %d", l, e)
				}
			}
		}
	}
}

// P9.2: 64 I-nodes with one C-node that has all of them as branches, and layers of such C-nodes: each call returns soon.
func TestInnerBelowAll(t *testing.T) {
	b := newBuilder()
	branches := map[int]api.Ref{}
	for i := range 64 {
		branches[i] = b.inner(0)
	}
	m := b.fork(branches)
	for _, in := range branches {
		b.set(b.mainOf(in), m)
	}
	x := b.trie(branches[0])
	checkInvalid(t, b.State(), x)
	x = b.trie(b.inner(m))
	checkInvalid(t, b.State(), x)

	b = newBuilder()
	m = b.fork(nil)
	for range 11 {
		branches := map[int]api.Ref{}
		for i := range 64 {
			branches[i] = b.inner(m)
		}
		m = b.fork(branches)
	}
	x = b.trie(b.inner(m))
	checkInvalid(t, b.State(), x)
}

// bottoms returns main nodes without I-nodes below them, and their pairs.
func (b builder) bottoms() (mains []api.Ref, all [][]api.Pair) {
	return []api.Ref{
		b.Alloc(node.Tomb(1, pair(8).Key, pair(8).Value), 0),
		b.Alloc(node.List(1, pairs(8, 9)), 0),
		b.fork(nil),
		b.fork(map[int]api.Ref{0: b.single(7), 63: b.single(8)}),
	}, [][]api.Pair{pairs(8), pairs(8, 9), nil, pairs(7, 8)}
}

// P9.2: an I-node may be MaxLevel I-nodes below the root, and no more, whatever its main node is and wherever it stands.
func TestMaxLevel(t *testing.T) {
	for levels := range 25 {
		for _, index := range []int{0, 30, 63} {
			b := newBuilder()
			mains, all := b.bottoms()
			for i, m := range mains {
				bottom := b.inner(m)
				x := b.trie(b.nested(bottom, levels, index))
				if levels > 11 {
					checkInvalid(t, b.State(), x)
					continue
				}
				l, e := view.Inner(b.State(), x)
				if e != api.OK || len(l) != 1+3*levels || !slices.Contains(l, bottom) {
					t.Fatalf("%d levels: Inner is %v, %d", levels, l, e)
				}
				p, e := view.Contents(b.State(), x)
				if e != api.OK || len(p) != len(all[i])+4*levels || !within(p, all[i]) {
					t.Fatalf("%d levels: Contents are %v, %d", levels, p, e)
				}
			}
		}
	}
}

// within tells whether a list contains the elements of another one, one after the other.
func within(l, part []api.Pair) bool {
	for i := range len(l) - len(part) + 1 {
		if slices.Equal(l[i:i+len(part)], part) {
			return true
		}
	}
	return false
}

// P9.2: what counts is the number of I-nodes above, not how many I-nodes there are before.
func TestManyInnerNodes(t *testing.T) {
	b := newBuilder()
	var wantPairs []api.Pair
	var wantInner []api.Ref
	level := []api.Ref{}
	for i := range 64 {
		level = append(level, b.list(10*i, 10*i+1))
	}
	branches := map[int]api.Ref{}
	for i := range 64 {
		in := b.forked(map[int]api.Ref{i: level[i]})
		branches[i] = in
		wantInner = append(wantInner, in, level[i])
		wantPairs = append(wantPairs, pair(10*i), pair(10*i+1))
	}
	r := b.forked(branches)
	x := b.trie(r)
	checkVisit(t, b.State(), x, wantPairs, append([]api.Ref{r}, wantInner...))
}

// P9.2: two tries in one state, one of which is below the other one, and several cells with one root.
func TestSeveralTries(t *testing.T) {
	b := newBuilder()
	low := b.list(3, 4)
	r := b.forked(map[int]api.Ref{1: b.single(1), 2: low})
	for range 2 {
		x, y := b.trie(r), b.trie(low)
		checkVisit(t, b.State(), x, pairs(1, 3, 4), []api.Ref{r, low})
		checkVisit(t, b.State(), y, pairs(3, 4), []api.Ref{low})
	}
}

// insert adds a pair to a well-formed trie below an I-node of a level.
func (b builder) insert(in api.Ref, level int, hash uint64, p api.Pair) {
	m := b.Load(b.mainOf(in))
	n := b.Node(m)
	if n.Kind == api.KindL {
		n, _ = tomb.Grown(n, p.Key, p.Value)
		b.set(b.mainOf(in), b.Alloc(n, 0))
		return
	}
	index := keyhash.Slice(hash, level)
	r, ok := branch.Lookup(n, index)
	switch {
	case !ok:
		n, _ = branch.Inserted(n, index, b.Alloc(node.Single(hash, p.Key, p.Value), 0))
	case b.Node(r).Kind == api.KindI:
		b.insert(r, level+1, hash, p)
		return
	default:
		below, _ := dual.Build(b, r, hash, p.Key, p.Value, level+1, 1)
		n, _ = branch.Updated(n, index, b.inner(below))
	}
	b.set(b.mainOf(in), b.Alloc(n, 0))
}

// The chapter's consequence: Contents of well-formed tries are in the order of Less, with each key once.
func TestWellFormedTries(t *testing.T) {
	for _, mask := range []uint64{math.MaxUint64, 63, 0, 1, 7 << 60, 15 << 58, 0xf0f0, 1<<63 | 1<<32 | 1, math.MaxUint64 &^ 63} {
		for _, count := range []int{0, 1, 2, 3, 10, 300} {
			b := newBuilder()
			r := b.forked(nil)
			x := b.trie(r)
			var want []api.Pair
			for i := range count {
				want = append(want, pair(i))
				b.insert(r, 0, keyhash.Hash(pair(i).Key, mask), pair(i))
			}
			slices.SortFunc(want, func(p, q api.Pair) int {
				if keyhash.Less(keyhash.Hash(p.Key, mask), p.Key, keyhash.Hash(q.Key, mask), q.Key) {
					return -1
				}
				return 1
			})
			inner, e := view.Inner(b.State(), x)
			if e != api.OK || inner[0] != r {
				t.Fatalf("mask %x: Inner is %v, %d", mask, inner, e)
			}
			checkVisit(t, b.State(), x, want, inner)
		}
	}
}

// P9.2: a trie of many pairs.
func TestLargeTrie(t *testing.T) {
	b := newBuilder()
	r := b.forked(nil)
	x := b.trie(r)
	const count = 20000
	for i := range count {
		b.insert(r, 0, keyhash.Hash(pair(i).Key, math.MaxUint64), pair(i))
	}
	l, e := view.Contents(b.State(), x)
	found := map[api.Pair]bool{}
	for _, p := range l {
		found[p] = true
	}
	if e != api.OK || len(l) != count || len(found) != count || !found[pair(0)] || !found[pair(count-1)] {
		t.Errorf("Contents are %d pairs, of which %d differ, %d, want %d", len(l), len(found), e, count)
	}
}
