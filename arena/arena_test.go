package arena_test

import (
	"math"
	"slices"
	"strings"
	"testing"

	"ctrie/api"
	"ctrie/arena"
	"ctrie/node"
)

// refs are Refs of every sort, noCells are numbers of no cell, otherKinds are no kinds, and markedState is the state of a
// new arena.
var (
	refs        = []api.Ref{math.MinInt, -1, 0, 1, 2, 3, math.MaxInt}
	noCells     = []api.Cell{math.MinInt, -1, 0, math.MaxInt}
	otherKinds  = []int{math.MinInt, -1, 0, 9, 256 + api.KindI, math.MaxInt}
	markedState = api.State{Nodes: []api.Node{{Kind: api.KindMark}, {Kind: api.KindMark}}}
)

// kinds returns the constants of package api.
func kinds() []int {
	return []int{api.KindMark, api.KindI, api.KindC, api.KindS, api.KindT, api.KindL, api.KindFailed, api.KindDesc}
}

// full returns a node of a kind that has no field which is 0 or empty; it is valid for no kind.
func full(kind int) api.Node {
	return api.Node{
		Kind: kind, Gen: 2, Main: 3, Bitmap: 5, Branches: []api.Ref{6, 7, -8}, Hash: 8, Key: "k", Value: 9,
		Pairs: []api.Pair{{Key: "b", Value: 1}, {Key: "a", Value: 2}}, Prev: 10, Old: 11, Expected: 12, New: 13, Status: 14,
	}
}

// valid returns a valid node of each kind that names no cell, with all its other fields set, and only the Refs 1 and 2.
func valid(kind int) api.Node {
	switch kind {
	case api.KindI:
		return node.Inner(1)
	case api.KindC:
		return api.Node{Kind: kind, Bitmap: 1<<63 | 5, Branches: []api.Ref{1, 2, 1}}
	case api.KindS:
		return node.Single(5, "single", 7)
	case api.KindT:
		return node.Tomb(6, "tomb", 8)
	case api.KindL:
		return node.List(7, []api.Pair{{Key: "a", Value: 1}, {Key: "b", Value: 2}, {Key: "c", Value: 3}})
	case api.KindFailed:
		return node.Failed(1)
	case api.KindDesc:
		return node.Desc(1, 2, 1)
	}
	return api.Node{Kind: kind}
}

// withCell returns n with the numbers of its cells 0, but for the one of its kind, and whether its kind has one.
func withCell(n api.Node, c api.Cell) (api.Node, bool) {
	n.Main, n.Prev, n.Status = 0, 0, 0
	switch n.Kind {
	case api.KindI:
		n.Main = c
	case api.KindC, api.KindT, api.KindL:
		n.Prev = c
	case api.KindDesc:
		n.Status = c
	default:
		return n, false
	}
	return n, true
}

// deepCopy returns an equal state in new memory.
func deepCopy(s api.State) api.State {
	var nodes []api.Node
	for _, n := range s.Nodes {
		n.Branches = append([]api.Ref(nil), n.Branches...)
		n.Pairs = append([]api.Pair(nil), n.Pairs...)
		nodes = append(nodes, n)
	}
	return api.State{Nodes: nodes, Cells: append([]api.Ref(nil), s.Cells...), Gen: s.Gen}
}

// sameState tells whether two states are equal.
func sameState(a, b api.State) bool {
	return a.Gen == b.Gen && slices.Equal(a.Cells, b.Cells) && slices.EqualFunc(a.Nodes, b.Nodes, node.Equal)
}

// checkNode reports an error if a node of an arena is not as wanted.
func checkNode(t *testing.T, a *arena.Arena, r api.Ref, want api.Node) {
	t.Helper()
	if got := a.Node(r); !node.Equal(got, want) {
		t.Errorf("node %d is %#v, want %#v", r, got, want)
	}
}

// checkCounts reports an error if Counts are not as wanted.
func checkCounts(t *testing.T, what string, a *arena.Arena, nodes, cells, accesses int) {
	t.Helper()
	if n, c, x := a.Counts(); n != nodes || c != cells || x != accesses {
		t.Errorf("%s: Counts are %d, %d, %d, want %d, %d, %d", what, n, c, x, nodes, cells, accesses)
	}
}

// checkState reports an error if the state, as State, Counts, Node and Load tell it, is not as wanted. It leaves the
// state as it is, but makes accesses, whose number it checks also.
func checkState(t *testing.T, what string, a *arena.Arena, want api.State, accesses int) {
	t.Helper()
	if got := a.State(); !sameState(got, want) {
		t.Errorf("%s: the state is %#v, want %#v", what, got, want)
	}
	checkCounts(t, what, a, len(want.Nodes), len(want.Cells), accesses)
	for i, n := range want.Nodes {
		checkNode(t, a, api.Ref(i+1), n)
	}
	for i, r := range want.Cells {
		if got := a.Load(api.Cell(i + 1)); got != r {
			t.Errorf("%s: cell %d contains %d, want %d", what, i+1, got, r)
		}
	}
	checkCounts(t, what, a, len(want.Nodes), len(want.Cells), accesses+len(want.Cells))
}

// P5.1: the nodes Yes and No, no cells, the generation 0, no accesses; each call returns another arena.
func TestNew(t *testing.T) {
	a, b := arena.New(), arena.New()
	checkState(t, "New", a, markedState, 0)
	checkNode(t, a, api.Yes, api.Node{Kind: api.KindMark})
	checkNode(t, a, api.No, api.Node{Kind: api.KindMark})
	a.Alloc(node.Inner(1), 1)
	a.NewCell(2)
	a.NewGen()
	a.Load(1)
	checkState(t, "New after changes of another new one", b, markedState, 0)
	checkState(t, "New after changes of others", arena.New(), markedState, 0)
}

// P5.2: a node of every kind, and of kinds that there are not, with every field set, also the cells of other kinds. Only
// the cell of its kind is there afterwards, a new one with the contents initial; where the kind has none, none is added.
func TestAlloc(t *testing.T) {
	for _, kind := range append(kinds(), otherKinds...) {
		for _, n := range []api.Node{{Kind: kind}, valid(kind), full(kind)} {
			a := arena.New()
			a.NewCell(2)
			want := deepCopy(markedState)
			want.Cells = append(want.Cells, 2)
			for _, initial := range refs {
				added, hasCell := withCell(n, api.Cell(len(want.Cells)+1))
				want.Nodes = append(want.Nodes, added)
				if hasCell {
					want.Cells = append(want.Cells, initial)
				}
				if got := a.Alloc(n, initial); got != api.Ref(len(want.Nodes)) {
					t.Errorf("Alloc of %#v returns %d, want %d", n, got, len(want.Nodes))
				}
				checkCounts(t, "Alloc", a, len(want.Nodes), len(want.Cells), 0)
			}
			checkState(t, "Alloc", a, want, 0)
		}
	}
}

// P5.2: kinds one after another: the numbers of nodes and of cells are consecutive, each on its own.
func TestAllocOfSeveral(t *testing.T) {
	a := arena.New()
	want := deepCopy(markedState)
	for i, kind := range append(kinds(), append(kinds(), otherKinds...)...) {
		n, hasCell := withCell(valid(kind), api.Cell(len(want.Cells)+1))
		want.Nodes = append(want.Nodes, n)
		if hasCell {
			want.Cells = append(want.Cells, api.Ref(100+i))
		}
		if got := a.Alloc(valid(kind), api.Ref(100+i)); got != api.Ref(i+3) {
			t.Errorf("Alloc number %d returns %d, want %d", i, got, i+3)
		}
	}
	checkState(t, "Alloc of all kinds", a, want, 0)
}

// P5.2: nodes that are not valid are added as they are.
func TestAllocDoesNotCheck(t *testing.T) {
	long := strings.Repeat("k", api.MaxKey+1)
	for _, n := range []api.Node{
		{Kind: api.KindI, Gen: 0},
		{Kind: api.KindI, Gen: -5},
		{Kind: api.KindI, Gen: math.MaxInt},
		{Kind: api.KindC, Bitmap: 7, Branches: []api.Ref{1}},
		{Kind: api.KindC, Branches: []api.Ref{0, -1, 99}},
		{Kind: api.KindS, Key: long},
		{Kind: api.KindT, Key: long, Pairs: []api.Pair{{Key: "x", Value: 1}}},
		{Kind: api.KindL},
		{Kind: api.KindL, Pairs: []api.Pair{{Key: "b"}, {Key: "a"}, {Key: long}}},
		{Kind: api.KindFailed, Old: -1},
		{Kind: api.KindDesc, Old: 99, Expected: 0, New: math.MinInt},
		{Kind: api.KindMark, Key: "k"},
	} {
		a := arena.New()
		want, _ := withCell(n, 1)
		if got := a.Alloc(n, 77); got != 3 {
			t.Errorf("Alloc of %#v returns %d, want 3", n, got)
		}
		checkNode(t, a, 3, want)
	}
}

// A consequence: a node that has been added stays as it is, whatever is called afterwards.
func TestNodesNeverChange(t *testing.T) {
	a := arena.New()
	var want []api.Node
	for i := range 500 {
		n := valid(kinds()[i%8])
		r := a.Alloc(n, api.Ref(i))
		added := a.Node(r)
		if added.Main, added.Prev, added.Status = n.Main, n.Prev, n.Status; !node.Equal(added, n) {
			t.Fatalf("Alloc of %#v adds %#v", n, added)
		}
		want = append(want, a.Node(r))
		a.CAS(api.Cell(i), a.Load(api.Cell(i)), 1)
		a.NewGen()
	}
	for i, n := range want {
		checkNode(t, a, api.Ref(i+3), n)
	}
}

// P5.2: NewCell adds cells with any contents, numbered from 1, and nothing else.
func TestNewCell(t *testing.T) {
	a := arena.New()
	want := deepCopy(markedState)
	for i, r := range append(refs, refs...) {
		if got := a.NewCell(r); got != api.Cell(i+1) {
			t.Errorf("NewCell number %d returns %d", i+1, got)
		}
		want.Cells = append(want.Cells, r)
	}
	checkState(t, "NewCell", a, want, 0)
}

// P5.2: NewGen counts from the latest generation on, and changes nothing else; nodes of other generations do not matter.
func TestNewGen(t *testing.T) {
	a := arena.New()
	for i := 1; i <= 5; i++ {
		if got := a.NewGen(); got != i || a.State().Gen != i {
			t.Errorf("NewGen number %d returns %d, and the latest one is %d", i, got, a.State().Gen)
		}
	}
	a.Alloc(node.Inner(40), 0)
	if got := a.NewGen(); got != 6 {
		t.Errorf("NewGen after a node of generation 40 returns %d, want 6", got)
	}
	want := api.State{Nodes: append(deepCopy(markedState).Nodes, api.Node{Kind: api.KindI, Gen: 40, Main: 1}), Cells: []api.Ref{0}, Gen: 6}
	checkState(t, "NewGen", a, want, 0)
	s := deepCopy(markedState)
	s.Gen = 7
	b, _ := arena.Of(s)
	if got := []int{b.NewGen(), b.Copy().NewGen(), b.NewGen()}; !slices.Equal(got, []int{8, 9, 9}) {
		t.Errorf("after generation 7, NewGen, NewGen of a copy and NewGen return %v", got)
	}
}

// P5.3: a CAS with the contents as expected and not, twice in a row, among other cells with the same contents.
func TestCAS(t *testing.T) {
	for _, contents := range refs {
		for _, old := range refs {
			for _, by := range refs {
				a := arena.New()
				for range 3 {
					a.NewCell(contents)
				}
				want := []api.Ref{contents, contents, contents}
				for i := range 2 {
					swaps := want[1] == old
					if swaps {
						want[1] = by
					}
					if got := a.CAS(2, old, by); got != swaps {
						t.Errorf("CAS number %d of %d from %d to %d returns %v", i, contents, old, by, got)
					}
					if got := a.State().Cells; !slices.Equal(got, want) || a.Load(2) != want[1] {
						t.Errorf("CAS number %d of %d from %d to %d leaves %v, and a Load returns %d, want %v", i, contents, old, by, got, a.Load(2), want)
					}
				}
			}
		}
	}
}

// P5.3: a Load changes nothing, however often.
func TestLoad(t *testing.T) {
	a := arena.New()
	for _, r := range refs {
		a.NewCell(r)
	}
	for range 3 {
		for i, r := range refs {
			if got := a.Load(api.Cell(i + 1)); got != r {
				t.Errorf("Load of cell %d returns %d, want %d", i+1, got, r)
			}
		}
	}
	checkState(t, "Loads", a, api.State{Nodes: markedState.Nodes, Cells: refs}, 3*len(refs))
}

// P5.3: of a cell that does not exist, Load returns 0, and a CAS from 0, or from anything else, false; both count.
func TestNoCell(t *testing.T) {
	for cells := range 4 {
		a := arena.New()
		want := deepCopy(markedState)
		for range cells {
			a.NewCell(0)
			want.Cells = append(want.Cells, 0)
		}
		accesses := 0
		for _, c := range append(slices.Clone(noCells), -2, -api.Cell(cells), api.Cell(cells+1), api.Cell(cells+2)) {
			if c >= 1 && int(c) <= cells {
				t.Fatalf("cell %d exists", c)
			}
			if got := a.Load(c); got != 0 {
				t.Errorf("Load of cell %d of %d returns %d", c, cells, got)
			}
			accesses++
			for _, old := range refs {
				if a.CAS(c, old, 2) || a.CAS(c, old, old) {
					t.Errorf("CAS of cell %d of %d from %d succeeds", c, cells, old)
				}
				accesses += 2
			}
			checkCounts(t, "no cell", a, 2, cells, accesses)
		}
		checkState(t, "no cell", a, want, accesses)
		if c := a.NewCell(0); !a.CAS(c, 0, 2) || a.Load(c) != 2 {
			t.Errorf("cell %d does not exist after NewCell", c)
		}
	}
}

// P5.4: every number that exists, and 0, numbers below it, and numbers above the last one.
func TestNode(t *testing.T) {
	a := arena.New()
	for count := 2; count < 20; count++ {
		for r := api.Ref(1); int(r) <= count; r++ {
			if a.Node(r).Kind == 0 {
				t.Errorf("node %d of %d does not exist", r, count)
			}
		}
		for _, r := range []api.Ref{math.MinInt, -api.Ref(count), -2, -1, 0, api.Ref(count + 1), api.Ref(count + 2), math.MaxInt} {
			checkNode(t, a, r, api.Node{})
		}
		want, _ := withCell(valid(kinds()[count%8]), api.Cell(len(a.State().Cells)+1))
		a.Alloc(want, 0)
		checkNode(t, a, api.Ref(count+1), want)
	}
}

// P5.4: Counts after each kind of call.
func TestCounts(t *testing.T) {
	a := arena.New()
	checkCounts(t, "New", a, 2, 0, 0)
	a.Counts()
	checkCounts(t, "Counts", a, 2, 0, 0)
	a.Alloc(node.Inner(1), 0)
	checkCounts(t, "Alloc of an I-node", a, 3, 1, 0)
	a.Alloc(node.Single(1, "k", 2), 0)
	checkCounts(t, "Alloc of a single", a, 4, 1, 0)
	a.NewCell(1)
	checkCounts(t, "NewCell", a, 4, 2, 0)
	a.NewGen()
	checkCounts(t, "NewGen", a, 4, 2, 0)
	a.Load(1)
	checkCounts(t, "Load", a, 4, 2, 1)
	a.CAS(1, 0, 2)
	checkCounts(t, "a CAS that succeeds", a, 4, 2, 2)
	a.CAS(1, 0, 2)
	checkCounts(t, "a CAS that fails", a, 4, 2, 3)
	a.Load(3)
	checkCounts(t, "Load of no cell", a, 4, 2, 4)
	a.Load(-1)
	checkCounts(t, "Load of no cell", a, 4, 2, 5)
	a.CAS(0, 0, 1)
	checkCounts(t, "CAS of no cell", a, 4, 2, 6)
	a.Node(3)
	a.Node(9)
	checkCounts(t, "Node", a, 4, 2, 6)
	s := a.State()
	checkCounts(t, "State", a, 4, 2, 6)
	b := a.Copy()
	checkCounts(t, "Copy, of the original", a, 4, 2, 6)
	checkCounts(t, "Copy", b, 4, 2, 0)
	b.Load(1)
	checkCounts(t, "Load in a copy", b, 4, 2, 1)
	checkCounts(t, "Copy of a copy", b.Copy(), 4, 2, 0)
	c, _ := arena.Of(s)
	checkCounts(t, "Of", c, 4, 2, 0)
	c.CAS(2, 1, 2)
	checkCounts(t, "CAS after Of", c, 4, 2, 1)
	checkCounts(t, "the end, of the original", a, 4, 2, 6)
}

// changes are calls that change an arena, each in another way.
func changes() []func(a *arena.Arena) {
	return []func(a *arena.Arena){
		func(a *arena.Arena) { a.CAS(1, a.Load(1), 2) },
		func(a *arena.Arena) { a.CAS(1, a.Load(1), 1) },
		func(a *arena.Arena) { a.Alloc(node.Inner(3), 1) },
		func(a *arena.Arena) { a.Alloc(valid(api.KindC), 2) },
		func(a *arena.Arena) { a.Alloc(node.Single(8, "other", 9), 0) },
		func(a *arena.Arena) { a.NewCell(1) },
		func(a *arena.Arena) { a.NewCell(2) },
		func(a *arena.Arena) { a.NewGen() },
	}
}

// filled returns an arena with nodes of all kinds, more than once, and of a kind that there is not, after accesses.
func filled(rounds int) *arena.Arena {
	a := arena.New()
	a.NewCell(7)
	for range rounds {
		for _, kind := range append(kinds(), 9) {
			a.Alloc(full(kind), 1)
			a.Alloc(valid(kind), 2)
		}
		a.NewGen()
		a.Load(1)
	}
	return a
}

// P5.4: a copy has the same state, and the one changes without the other, whichever changes first.
func TestCopy(t *testing.T) {
	for rounds := range 4 {
		for _, change := range changes() {
			for _, other := range changes() {
				for turn := range 2 {
					a := filled(rounds)
					both := [2]*arena.Arena{a, a.Copy()}
					if !sameState(both[0].State(), both[1].State()) {
						t.Fatalf("the state of a copy is %#v, want %#v", both[1].State(), both[0].State())
					}
					first, second := both[turn], both[1-turn]
					before := second.State()
					change(first)
					checkUnchanged(t, "the other arena", second, before)
					after := first.State()
					if sameState(before, after) {
						t.Fatal("a change changes nothing")
					}
					other(second)
					checkUnchanged(t, "the first arena", first, after)
				}
			}
		}
	}
}

// checkUnchanged reports an error if the state is not as before.
func checkUnchanged(t *testing.T, what string, a *arena.Arena, before api.State) {
	t.Helper()
	_, _, accesses := a.Counts()
	checkState(t, what, a, before, accesses)
}

// P5.4: copies of copies, each changed once, differ from one another in just this.
func TestCopies(t *testing.T) {
	a := arena.New()
	var copies []*arena.Arena
	for i := range 5 {
		a.Alloc(node.Single(uint64(i), "k", 0), 0)
		a.NewCell(api.Ref(i))
		copies = append(copies, a.Copy())
		a = a.Copy()
	}
	for i, c := range copies {
		c.Alloc(node.Single(100, "end", uint64(i)), 0)
		c.NewCell(api.Ref(100 + i))
	}
	for i, c := range copies {
		want := deepCopy(markedState)
		for j := range i + 1 {
			want.Nodes = append(want.Nodes, node.Single(uint64(j), "k", 0))
			want.Cells = append(want.Cells, api.Ref(j))
		}
		want.Nodes = append(want.Nodes, node.Single(100, "end", uint64(i)))
		want.Cells = append(want.Cells, api.Ref(100+i))
		checkState(t, "a copy of a copy", c, want, 0)
	}
}

// *Arena is a Store: this does not compile if it is not.
var _ arena.Store = (*arena.Arena)(nil)

// The section Ways: calls by way of the interface do what the methods do.
func TestStore(t *testing.T) {
	a := arena.New()
	var s arena.Store = a
	c := s.NewCell(1)
	r := s.Alloc(node.Inner(s.NewGen()), 2)
	if !s.CAS(c, 1, r) || s.Load(c) != r || !node.Equal(s.Node(r), api.Node{Kind: api.KindI, Gen: 1, Main: 2}) {
		t.Errorf("by way of a Store, cell %d contains %d, and node %d is %#v", c, s.Load(c), r, s.Node(r))
	}
	want := api.State{Nodes: append(deepCopy(markedState).Nodes, api.Node{Kind: api.KindI, Gen: 1, Main: 2}), Cells: []api.Ref{3, 2}, Gen: 1}
	checkState(t, "Store", a, want, 2)
}

// The chapter's examples.
func TestExamples(t *testing.T) {
	a := arena.New()
	if r := a.Alloc(node.Inner(1), 0); r != 3 || a.Node(r).Main != 1 {
		t.Errorf("Alloc returns %d, and its Main is %d, want 3 and 1", r, a.Node(r).Main)
	}
	if !a.CAS(1, 0, 2) || a.CAS(1, 0, 2) {
		t.Error("CAS from 0 to 2 does not succeed exactly once")
	}
}

// reference is an arena made of maps.
type reference struct {
	nodes    map[api.Ref]api.Node
	cells    map[api.Cell]api.Ref
	gen      int
	accesses int
}

// alloc is Alloc.
func (m *reference) alloc(n api.Node, initial api.Ref) api.Ref {
	added, hasCell := withCell(n, api.Cell(len(m.cells)+1))
	if hasCell {
		m.cells[api.Cell(len(m.cells)+1)] = initial
	}
	r := api.Ref(len(m.nodes) + 1)
	m.nodes[r] = added
	return r
}

// cas is CAS.
func (m *reference) cas(c api.Cell, old, by api.Ref) bool {
	m.accesses++
	contents, exists := m.cells[c]
	if !exists || contents != old {
		return false
	}
	m.cells[c] = by
	return true
}

// state is State.
func (m *reference) state() api.State {
	s := api.State{Gen: m.gen}
	for r := range len(m.nodes) {
		s.Nodes = append(s.Nodes, m.nodes[api.Ref(r+1)])
	}
	for c := range len(m.cells) {
		s.Cells = append(s.Cells, m.cells[api.Cell(c+1)])
	}
	return s
}

// call makes the call that x chooses, in both, and reports an error if they return something else.
func (m *reference) call(t *testing.T, a *arena.Arena, x uint64) {
	t.Helper()
	n := full(int(x>>8%11) - 1)
	c := api.Cell(x>>16%uint64(len(m.cells)+3)) - 1
	old, by := api.Ref(x>>32%4)-1, api.Ref(x>>40%4)-1
	same := true
	switch x % 6 {
	case 0:
		same = a.Alloc(n, by) == m.alloc(n, by)
	case 1:
		m.cells[api.Cell(len(m.cells)+1)] = by
		same = a.NewCell(by) == api.Cell(len(m.cells))
	case 2:
		m.gen++
		same = a.NewGen() == m.gen
	case 3:
		m.accesses++
		same = a.Load(c) == m.cells[c]
	case 4:
		same = a.CAS(c, old, by) == m.cas(c, old, by)
	case 5:
		r := api.Ref(x>>16%uint64(len(m.nodes)+3)) - 1
		same = node.Equal(a.Node(r), m.nodes[r])
	}
	if !same {
		t.Errorf("call %d with node %#v, cell %d and the contents %d and %d returns something else than the reference", x%6, n, c, old, by)
	}
}

// P5.2 to P5.4, R2: long runs of mixed calls, compared with an arena made of maps; of two arenas with equal calls both.
func TestRuns(t *testing.T) {
	for seed := range uint64(40) {
		m := reference{nodes: map[api.Ref]api.Node{1: {Kind: api.KindMark}, 2: {Kind: api.KindMark}}, cells: map[api.Cell]api.Ref{}}
		a := arena.New()
		x := seed*2 + 1
		for range 300 {
			x = x*6364136223846793005 + 1442695040888963407
			m.call(t, a, x>>7)
		}
		checkState(t, "a run", a, m.state(), m.accesses)
		if !sameState(a.Copy().State(), m.state()) {
			t.Errorf("the state of a copy differs after run %d", seed)
		}
	}
}
