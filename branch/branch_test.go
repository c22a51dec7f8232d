package branch_test

import (
	"math"
	"reflect"
	"slices"
	"strings"
	"testing"

	"ctrie/api"
	"ctrie/branch"
)

// contents are the branches of a C-node by their indices; 0 is none.
type contents [64]api.Ref

// node returns the C-node with these branches.
func (b contents) node() api.Node {
	c := api.Node{Kind: api.KindC}
	for i, r := range b {
		if r != 0 {
			c.Bitmap |= 1 << i
			c.Branches = append(c.Branches, r)
		}
	}
	return c
}

// with returns other contents, with r at an index.
func (b contents) with(index int, r api.Ref) contents {
	b[index] = r
	return b
}

// samples returns contents with no branch, with one at each index, with several, with all but one, and with all. Branches
// differ from their neighbours, but not from all others.
func samples() []contents {
	all := []contents{{}}
	for i := range 64 {
		all = append(all, contents{}.with(i, api.Ref(i%5+1)))
	}
	for _, bitmap := range []uint64{
		3, 17, 1<<63 | 1, 3 << 62, 3 << 31, 1<<63 | 5, 1<<33 | 1<<20 | 1<<3, math.MaxUint32, math.MaxUint32 << 32,
		0x5555555555555555, 0x8421084210842108, math.MaxUint64 - 1, math.MaxUint64 >> 1, math.MaxUint64 &^ (1 << 31), math.MaxUint64,
	} {
		var b contents
		for i := range b {
			if bitmap>>i&1 != 0 {
				b[i] = api.Ref(i%7 + 3)
			}
		}
		all = append(all, b)
	}
	return append(all, contents{}.with(0, 1).with(1, 1).with(63, math.MaxInt))
}

// outside are numbers that are no indices.
var outside = []int{math.MinInt, math.MinInt32, -128, -65, -64, -63, -1, 64, 65, 127, 128, 256, 1 << 32, math.MaxInt - 63, math.MaxInt}

// noNodes are Refs that are less than 1.
var noNodes = []api.Ref{math.MinInt, -9, -1, 0}

// unfit returns nodes of other kinds than C, valid and not, and C-nodes that are not valid. Most have branches.
func unfit() []api.Node {
	refs := []api.Ref{5, 6}
	two := []api.Pair{{Key: "a", Value: 1}, {Key: "b", Value: 2}}
	all := []api.Node{
		{},
		{Bitmap: 17, Branches: refs},
		{Kind: api.KindMark},
		{Kind: api.KindI, Gen: 1, Main: 1},
		{Kind: api.KindS, Hash: 1, Key: "k", Value: 2},
		{Kind: api.KindT, Hash: 1, Key: "k", Value: 2, Prev: 3},
		{Kind: api.KindL, Hash: 1, Pairs: two, Prev: 3},
		{Kind: api.KindFailed, Old: 5},
		{Kind: api.KindDesc, Old: 5, Expected: 6, New: 7, Status: 8},
		{Kind: api.KindC, Bitmap: 17},
		{Kind: api.KindC, Bitmap: 17, Branches: refs[:1]},
		{Kind: api.KindC, Bitmap: 17, Branches: []api.Ref{5, 6, 7}},
		{Kind: api.KindC, Bitmap: 17, Branches: []api.Ref{0, 6}},
		{Kind: api.KindC, Bitmap: 17, Branches: []api.Ref{5, -6}},
		{Kind: api.KindC, Bitmap: 17, Branches: refs, Prev: -1},
		{Kind: api.KindC, Bitmap: 17, Branches: refs, Gen: 1},
		{Kind: api.KindC, Bitmap: 17, Branches: refs, Main: 1},
		{Kind: api.KindC, Bitmap: 17, Branches: refs, Hash: 1},
		{Kind: api.KindC, Bitmap: 17, Branches: refs, Key: "k"},
		{Kind: api.KindC, Bitmap: 17, Branches: refs, Key: strings.Repeat("k", 65)},
		{Kind: api.KindC, Bitmap: 17, Branches: refs, Value: 1},
		{Kind: api.KindC, Bitmap: 17, Branches: refs, Pairs: two},
		{Kind: api.KindC, Bitmap: 17, Branches: refs, Old: 1},
		{Kind: api.KindC, Bitmap: 17, Branches: refs, Expected: 1},
		{Kind: api.KindC, Bitmap: 17, Branches: refs, New: 1},
		{Kind: api.KindC, Bitmap: 17, Branches: refs, Status: 1},
		{Kind: api.KindC, Bitmap: 16},
		{Kind: api.KindC, Bitmap: 16, Branches: refs},
		{Kind: api.KindC, Bitmap: 16, Branches: []api.Ref{0}},
		{Kind: api.KindC, Bitmap: 16, Branches: []api.Ref{-1}},
		{Kind: api.KindC, Bitmap: 16, Branches: refs[:1], Prev: -1},
		{Kind: api.KindC, Bitmap: 16, Branches: refs[:1], Gen: 1},
		{Kind: api.KindC, Branches: refs[:1]},
		{Kind: api.KindC, Prev: -1},
		{Kind: api.KindC, Key: "k"},
	}
	for _, kind := range []int{
		math.MinInt, -1, 0, api.KindMark, api.KindI, api.KindS, api.KindT, api.KindL, api.KindFailed, api.KindDesc, 9, 259, math.MaxInt,
	} {
		all = append(all,
			api.Node{Kind: kind, Bitmap: 16, Branches: []api.Ref{5}, Prev: 3},
			api.Node{Kind: kind, Bitmap: 17, Branches: []api.Ref{5, 6}})
	}
	return all
}

// same tells whether two nodes are equal; lists without elements are equal, nil or not.
func same(a, b api.Node) bool {
	for _, n := range []*api.Node{&a, &b} {
		if len(n.Branches) == 0 {
			n.Branches = nil
		}
		if len(n.Pairs) == 0 {
			n.Pairs = nil
		}
	}
	return reflect.DeepEqual(a, b)
}

// change is a call that returns another node, and its name.
type change struct {
	name string
	call func(c api.Node, index int, r api.Ref) (api.Node, bool)
}

// changes are the functions that return nodes; Removed does not need a branch.
func changes() []change {
	return []change{
		{"Inserted", branch.Inserted},
		{"Updated", branch.Updated},
		{"Removed", func(c api.Node, index int, r api.Ref) (api.Node, bool) { return branch.Removed(c, index) }},
	}
}

// checkChange reports an error if a call does not return a node and true, each time.
func checkChange(t *testing.T, call change, c api.Node, index int, r api.Ref, want api.Node) {
	t.Helper()
	for range 2 {
		if got, ok := call.call(c, index, r); !ok || !same(got, want) {
			t.Errorf("%s(%#v, %d, %d) is %#v, %v, want %#v", call.name, c, index, r, got, ok, want)
		}
	}
}

// checkNoChange reports an error if a call does not return the zero node and false.
func checkNoChange(t *testing.T, call change, c api.Node, index int, r api.Ref) {
	t.Helper()
	if got, ok := call.call(c, index, r); ok || !reflect.DeepEqual(got, api.Node{}) {
		t.Errorf("%s(%#v, %d, %d) is %#v, %v, want none", call.name, c, index, r, got, ok)
	}
}

// checkBranch reports an error if a branch is not as wanted; 0 is none.
func checkBranch(t *testing.T, what string, c api.Node, got api.Ref, ok bool, want api.Ref) {
	t.Helper()
	if got != want || ok != (want != 0) {
		t.Errorf("%s of %#v is %d, %v, want %d", what, c, got, ok, want)
	}
}

// P6.1: for no branch, one, several and all, at every index, whatever Prev is.
func TestLookup(t *testing.T) {
	for _, b := range samples() {
		c := b.node()
		for _, c.Prev = range []api.Cell{0, 3, math.MaxInt} {
			for i, want := range b {
				for range 2 {
					got, ok := branch.Lookup(c, i)
					checkBranch(t, "Lookup", c, got, ok, want)
				}
			}
		}
	}
}

// P6.1: there is no branch at a number that is not from 0 to 63.
func TestLookupOutside(t *testing.T) {
	for _, b := range samples() {
		for _, i := range outside {
			got, ok := branch.Lookup(b.node(), i)
			checkBranch(t, "Lookup outside", b.node(), got, ok, 0)
		}
	}
}

// P6.1: nodes of other kinds, and C-nodes that are not valid, have no branches.
func TestLookupOfOthers(t *testing.T) {
	for _, n := range unfit() {
		for i := range 64 {
			got, ok := branch.Lookup(n, i)
			checkBranch(t, "Lookup", n, got, ok, 0)
		}
		for _, i := range outside {
			got, ok := branch.Lookup(n, i)
			checkBranch(t, "Lookup outside", n, got, ok, 0)
		}
	}
}

// P6.2: at every index of every sample, the functions return what the contents tell: all other branches stay, and Prev
// is 0 whatever it was. A branch that exists already is not inserted, one that does not is neither updated nor removed.
func TestChanges(t *testing.T) {
	inserted, updated, removed := changes()[0], changes()[1], changes()[2]
	for _, b := range samples() {
		c := b.node()
		for i := range b {
			for _, r := range []api.Ref{1, 2, 9, math.MaxInt} {
				for _, c.Prev = range []api.Cell{0, 1, math.MaxInt} {
					if b[i] == 0 {
						checkChange(t, inserted, c, i, r, b.with(i, r).node())
						checkNoChange(t, updated, c, i, r)
						checkNoChange(t, removed, c, i, r)
					} else {
						checkNoChange(t, inserted, c, i, r)
						checkNoChange(t, inserted, c, i, b[i])
						checkChange(t, updated, c, i, r, b.with(i, r).node())
						checkChange(t, updated, c, i, b[i], b.node())
						checkChange(t, removed, c, i, r, b.with(i, 0).node())
					}
				}
			}
		}
	}
}

// P6.2: the first, a middle and the last place, and the only one.
func TestPlaces(t *testing.T) {
	three := api.Node{Kind: api.KindC, Bitmap: 1<<5 | 1<<20 | 1<<40, Branches: []api.Ref{7, 8, 9}, Prev: 4}
	one := api.Node{Kind: api.KindC, Bitmap: 1 << 20, Branches: []api.Ref{8}, Prev: 4}
	none := api.Node{Kind: api.KindC, Prev: 4}
	inserted, updated, removed := changes()[0], changes()[1], changes()[2]
	cases := []struct {
		call     change
		c        api.Node
		index    int
		bitmap   uint64
		branches []api.Ref
	}{
		{inserted, three, 0, three.Bitmap | 1, []api.Ref{6, 7, 8, 9}},
		{inserted, three, 4, three.Bitmap | 1<<4, []api.Ref{6, 7, 8, 9}},
		{inserted, three, 6, three.Bitmap | 1<<6, []api.Ref{7, 6, 8, 9}},
		{inserted, three, 39, three.Bitmap | 1<<39, []api.Ref{7, 8, 6, 9}},
		{inserted, three, 41, three.Bitmap | 1<<41, []api.Ref{7, 8, 9, 6}},
		{inserted, three, 63, three.Bitmap | 1<<63, []api.Ref{7, 8, 9, 6}},
		{inserted, one, 0, 1<<20 | 1, []api.Ref{6, 8}},
		{inserted, one, 63, 1<<20 | 1<<63, []api.Ref{8, 6}},
		{inserted, none, 0, 1, []api.Ref{6}},
		{inserted, none, 63, 1 << 63, []api.Ref{6}},
		{updated, three, 5, three.Bitmap, []api.Ref{6, 8, 9}},
		{updated, three, 20, three.Bitmap, []api.Ref{7, 6, 9}},
		{updated, three, 40, three.Bitmap, []api.Ref{7, 8, 6}},
		{updated, one, 20, 1 << 20, []api.Ref{6}},
		{removed, three, 5, 1<<20 | 1<<40, []api.Ref{8, 9}},
		{removed, three, 20, 1<<5 | 1<<40, []api.Ref{7, 9}},
		{removed, three, 40, 1<<5 | 1<<20, []api.Ref{7, 8}},
		{removed, one, 20, 0, nil},
	}
	for _, c := range cases {
		checkChange(t, c.call, c.c, c.index, 6, api.Node{Kind: api.KindC, Bitmap: c.bitmap, Branches: c.branches})
	}
}

// P6.2: nodes of other kinds, and C-nodes that are not valid, are refused at every index.
func TestChangesOfOthers(t *testing.T) {
	for _, n := range unfit() {
		for _, call := range changes() {
			for i := range 64 {
				checkNoChange(t, call, n, i, 9)
			}
			for _, i := range outside {
				checkNoChange(t, call, n, i, 9)
				checkNoChange(t, call, n, i, 0)
			}
		}
	}
}

// P6.2: an index that is not from 0 to 63 is refused.
func TestChangesOutside(t *testing.T) {
	for _, b := range samples() {
		for _, call := range changes() {
			for _, i := range outside {
				checkNoChange(t, call, b.node(), i, 9)
				checkNoChange(t, call, b.node(), i, 0)
			}
		}
	}
}

// P6.2: a branch that is no node is refused at every index, whether or not there is a branch.
func TestChangesToNoNode(t *testing.T) {
	inserted, updated := changes()[0], changes()[1]
	for _, b := range samples() {
		for i := range b {
			for _, r := range noNodes {
				checkNoChange(t, inserted, b.node(), i, r)
				checkNoChange(t, updated, b.node(), i, r)
			}
		}
	}
}

// P6.3: the only branch, at every index and whatever Prev is; none if there are none, or several.
func TestSole(t *testing.T) {
	for _, b := range samples() {
		c, want := b.node(), api.Ref(0)
		if len(c.Branches) == 1 {
			want = c.Branches[0]
		}
		for _, c.Prev = range []api.Cell{0, 3, math.MaxInt} {
			for range 2 {
				got, ok := branch.Sole(c)
				checkBranch(t, "Sole", c, got, ok, want)
			}
		}
	}
	for _, r := range []api.Ref{1, 2, 77, math.MaxInt} {
		c := api.Node{Kind: api.KindC, Bitmap: 2, Branches: []api.Ref{r}, Pairs: []api.Pair{}}
		got, ok := branch.Sole(c)
		checkBranch(t, "Sole", c, got, ok, r)
	}
}

// P6.3: nodes of other kinds, and C-nodes that are not valid, have no only branch.
func TestSoleOfOthers(t *testing.T) {
	for _, n := range unfit() {
		got, ok := branch.Sole(n)
		checkBranch(t, "Sole", n, got, ok, 0)
	}
}

// A C-node may have empty lists instead of nil ones.
func TestEmptyLists(t *testing.T) {
	c := api.Node{Kind: api.KindC, Branches: []api.Ref{}, Pairs: []api.Pair{}, Prev: 2}
	checkChange(t, changes()[0], c, 8, 9, contents{}.with(8, 9).node())
	c = api.Node{Kind: api.KindC, Bitmap: 1, Branches: []api.Ref{4}, Pairs: []api.Pair{}}
	checkChange(t, changes()[1], c, 0, 9, contents{}.with(0, 9).node())
	checkChange(t, changes()[2], c, 0, 9, api.Node{Kind: api.KindC})
	got, ok := branch.Lookup(c, 0)
	checkBranch(t, "Lookup", c, got, ok, 4)
}

// within returns a list in the middle of a longer one, so that it has memory behind its last element, and the longer one.
func within(l []api.Ref) (part, whole []api.Ref) {
	whole = append([]api.Ref{77}, l...)
	whole = slices.Clip(append(whole, 77, 77, 77))
	return whole[1 : 1+len(l)], whole
}

// R3: no call changes its argument, nor the memory around its list.
func TestArgumentsStay(t *testing.T) {
	nodes := unfit()
	for _, b := range samples() {
		nodes = append(nodes, b.node())
	}
	for _, c := range nodes {
		var whole []api.Ref
		c.Branches, whole = within(c.Branches)
		list, before := slices.Clone(c.Branches), slices.Clone(whole)
		for i := -1; i <= 64; i++ {
			branch.Lookup(c, i)
			for _, call := range changes() {
				call.call(c, i, 9)
			}
		}
		branch.Sole(c)
		if !slices.Equal(whole, before) || !slices.Equal(c.Branches, list) {
			t.Fatalf("a call changes the branches of %#v, or what is around them, to %v from %v", c, whole, before)
		}
	}
}

// overwrite changes a list up to its capacity.
func overwrite(l []api.Ref) {
	l = l[:cap(l)]
	for i := range l {
		l[i] = 1000
	}
}

// R3: results share memory neither with the argument nor with each other, also behind their last elements.
func TestResultsAreNew(t *testing.T) {
	for _, b := range samples() {
		for i := range b {
			for _, call := range changes() {
				c := b.node()
				var whole []api.Ref
				c.Branches, whole = within(c.Branches)
				one, ok := call.call(c, i, 9)
				if !ok {
					continue
				}
				other, _ := call.call(c, i, 9)
				want, before := slices.Clone(one.Branches), slices.Clone(whole)
				overwrite(one.Branches)
				if !slices.Equal(other.Branches, want) || !slices.Equal(whole, before) {
					t.Fatalf("writing over a result of %s of %#v at %d changes another result to %v, or its argument to %v", call.name, b.node(), i, other.Branches, whole)
				}
				overwrite(whole)
				overwrite(c.Branches)
				if !slices.Equal(other.Branches, want) {
					t.Fatalf("writing over the argument of %s, %#v, at %d changes a result to %v", call.name, b.node(), i, other.Branches)
				}
			}
		}
	}
}

// The chapter's first consequence: removing what was inserted gives the node, but for Prev.
func TestRemovedAfterInserted(t *testing.T) {
	for _, b := range samples() {
		c := b.node()
		c.Prev = 5
		for i := range b {
			if b[i] != 0 {
				continue
			}
			more, _ := branch.Inserted(c, i, 9)
			more.Prev = 6
			checkChange(t, changes()[2], more, i, 9, b.node())
		}
	}
}

// The chapter's second consequence: operations at different indices may be exchanged.
func TestExchange(t *testing.T) {
	for _, b := range samples() {
		c := b.node()
		for _, first := range changes() {
			for _, second := range changes() {
				for i := 0; i < 64; i += 3 {
					for j := 1; j < 64; j += 3 {
						checkExchange(t, c, first, i, second, j)
					}
				}
			}
		}
	}
}

// checkExchange reports an error if two calls at different indices do not give the same node in both orders.
func checkExchange(t *testing.T, c api.Node, first change, i int, second change, j int) {
	t.Helper()
	one, ok := first.call(c, i, 8)
	if !ok {
		return
	}
	both, ok := second.call(one, j, 9)
	if !ok {
		return
	}
	one, ok = second.call(c, j, 9)
	again, fits := first.call(one, i, 8)
	if !ok || !fits || !same(both, again) {
		t.Errorf("%s at %d and %s at %d of %#v is %#v, and in the other order %#v", first.name, i, second.name, j, c, both, again)
	}
}

// The chapter's example.
func TestExample(t *testing.T) {
	c := api.Node{Kind: api.KindC, Bitmap: 17, Branches: []api.Ref{5, 6}}
	checkChange(t, changes()[0], c, 3, 9, api.Node{Kind: api.KindC, Bitmap: 25, Branches: []api.Ref{5, 9, 6}})
}
