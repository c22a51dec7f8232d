package dual_test

import (
	"math"
	"slices"
	"strings"
	"testing"

	"ctrie/api"
	"ctrie/arena"
	"ctrie/dual"
	"ctrie/keyhash"
	"ctrie/node"
)

// longest and tooLong are keys of MaxKey bytes and of one byte more.
var (
	longest = strings.Repeat("k", 64)
	tooLong = strings.Repeat("k", 65)
)

// same is a hash value whose slices of all levels differ from one another, so that none can take the place of another.
const same = 11<<60 | 10<<54 | 9<<48 | 8<<42 | 7<<36 | 6<<30 | 5<<24 | 4<<18 | 3<<12 | 2<<6 | 1

// item is a key with its hash value and its value.
type item struct {
	hash  uint64
	key   string
	value uint64
}

// single returns the S-node of an item.
func (i item) single() api.Node {
	return api.Node{Kind: api.KindS, Hash: i.hash, Key: i.key, Value: i.value}
}

// pair returns the pair of an item.
func (i item) pair() api.Pair {
	return api.Pair{Key: i.key, Value: i.value}
}

// call is a call of Build without its store: X is to be the node x.
type call struct {
	x          api.Ref
	with       item
	level, gen int
}

// on makes the call.
func (c call) on(s arena.Store) (api.Ref, api.Errno) {
	return dual.Build(s, c.x, c.with.hash, c.with.key, c.with.value, c.level, c.gen)
}

// first returns the first level at which the slices of two hash values differ, or 11 if none does.
func first(h, k uint64) int {
	level := 0
	for level < 11 && h%64 == k%64 {
		h, k, level = h/64, k/64, level+1
	}
	return level
}

// bit returns the bitmap of the slice of a hash value at a level.
func bit(hash uint64, level int) uint64 {
	for range level {
		hash /= 64
	}
	return 1 << (hash % 64)
}

// grown adds to a state what the procedure allocates, from the lowest node upwards.
func grown(s api.State, c call) api.State {
	x := s.Nodes[c.x-1]
	last := func() api.Ref { return api.Ref(len(s.Nodes)) }
	cell := func(contents api.Ref) api.Cell {
		s.Cells = append(s.Cells, contents)
		return api.Cell(len(s.Cells))
	}
	level := first(x.Hash, c.with.hash)
	if level == 11 {
		two := []api.Pair{{Key: x.Key, Value: x.Value}, c.with.pair()}
		if c.with.key < x.Key {
			two[0], two[1] = two[1], two[0]
		}
		s.Nodes = append(s.Nodes, api.Node{Kind: api.KindL, Hash: c.with.hash, Pairs: two, Prev: cell(0)})
	} else {
		s.Nodes = append(s.Nodes, c.with.single())
		left, right := bit(x.Hash, level), bit(c.with.hash, level)
		both := []api.Ref{c.x, last()}
		if right < left {
			both[0], both[1] = both[1], both[0]
		}
		s.Nodes = append(s.Nodes, api.Node{Kind: api.KindC, Bitmap: left | right, Branches: both, Prev: cell(0)})
	}
	for level--; level >= c.level; level-- {
		s.Nodes = append(s.Nodes, api.Node{Kind: api.KindI, Gen: c.gen, Main: cell(last())})
		s.Nodes = append(s.Nodes, api.Node{Kind: api.KindC, Bitmap: bit(x.Hash, level), Branches: []api.Ref{last()}, Prev: cell(0)})
	}
	return s
}

// sameState tells whether two states are equal.
func sameState(a, b api.State) bool {
	return a.Gen == b.Gen && slices.Equal(a.Cells, b.Cells) && slices.EqualFunc(a.Nodes, b.Nodes, node.Equal)
}

// checkAfter reports an error if a call does not return what it is to return, or does not leave the state that it is to
// leave, without any access.
func checkAfter(t *testing.T, a *arena.Arena, c call, r api.Ref, e api.Errno, want api.State) {
	t.Helper()
	_, _, before := a.Counts()
	if got, err := c.on(a); got != r || err != e {
		t.Fatalf("Build%+v is %d, %d, want %d, %d", c, got, err, r, e)
	}
	if got := a.State(); !sameState(got, want) {
		t.Fatalf("Build%+v: the state is %#v, want %#v", c, got, want)
	}
	if _, _, after := a.Counts(); after != before {
		t.Errorf("Build%+v makes %d accesses", c, after-before)
	}
}

// checkBuilt reports an error if a call does not do what the procedure does, in a store and in one that is equal to it.
func checkBuilt(t *testing.T, a *arena.Arena, c call) {
	t.Helper()
	want := grown(a.State(), c)
	for _, store := range []*arena.Arena{a.Copy(), a} {
		checkAfter(t, store, c, api.Ref(len(want.Nodes)), api.OK, want)
	}
}

// checkRefused reports an error if a call does not return an error each time, or if it changes the store.
func checkRefused(t *testing.T, a *arena.Arena, c call, want api.Errno) {
	t.Helper()
	for range 2 {
		checkAfter(t, a, c, 0, want, a.State())
	}
}

// with returns a store with a single alone, and the single's number.
func with(i item) (*arena.Arena, api.Ref) {
	a := arena.New()
	return a, a.Alloc(i.single(), 0)
}

// ofKinds returns nodes of each kind but KindS, and of numbers that are no kinds. Each has the fields of a single also
// in a node that has every field.
func ofKinds() []api.Node {
	two := []api.Pair{{Key: "a", Value: 1}, {Key: "b", Value: 2}}
	var all []api.Node
	for _, kind := range []int{
		math.MinInt, -api.KindS, 0, api.KindMark, api.KindI, api.KindC, api.KindT, api.KindL, api.KindFailed, api.KindDesc, 9,
		256 + api.KindS, math.MaxInt,
	} {
		all = append(all,
			api.Node{Kind: kind},
			api.Node{Kind: kind, Hash: same, Key: "key", Value: 9},
			api.Node{Kind: kind, Gen: 1, Bitmap: 16, Branches: []api.Ref{1}, Hash: same, Key: "key", Value: 9, Pairs: two, Old: 1, Expected: 2, New: 3})
	}
	return all
}

// filled returns a store with nodes of all kinds, with cells of no node, with accesses made, and of a later generation.
// Its X has the number 7.
func filled(x item) *arena.Arena {
	a := arena.New()
	a.NewCell(2)
	a.NewGen()
	a.Alloc(node.Empty(), 1)
	a.Alloc(node.Inner(1), 3)
	a.Alloc(item{same, "before", 1}.single(), 0)
	a.Alloc(node.Tomb(same, "tomb", 1), 3)
	a.Alloc(x.single(), 0)
	a.Alloc(item{same, "after", 2}.single(), 0)
	for _, n := range ofKinds() {
		a.Alloc(n, 5)
	}
	a.NewCell(7)
	a.NewGen()
	a.CAS(1, 2, 4)
	a.Load(2)
	return a
}

// P8.1: the slices differ at the level itself: a single and a C-node with both branches, X's at its own slice, whether
// this is the greater or the lesser one.
func TestDifferentSlices(t *testing.T) {
	for _, c := range []struct {
		x, hash uint64
		level   int
		bitmap  uint64
		left    bool
	}{
		{9, 5, 0, 1<<9 | 1<<5, false},
		{5, 9, 0, 1<<9 | 1<<5, true},
		{0, 63, 0, 1<<63 | 1, true},
		{63, 0, 0, 1<<63 | 1, false},
		{31, 32, 0, 1<<32 | 1<<31, true},
		{7 | 1<<6, 7 | 2<<6, 1, 6, true},
		{7 | 2<<6, 7 | 1<<6, 1, 6, false},
		{1<<6 | 3, 2<<6 | 2, 0, 12, false},
		{15 << 60, 14 << 60, 10, 1<<15 | 1<<14, false},
		{0, 1 << 63, 10, 1<<8 | 1, true},
	} {
		a, x := with(item{c.x, "x", 1})
		branches := []api.Ref{4, x}
		if c.left {
			branches = []api.Ref{x, 4}
		}
		want := a.State()
		want.Nodes = append(want.Nodes,
			api.Node{Kind: api.KindS, Hash: c.hash, Key: "y", Value: 2},
			api.Node{Kind: api.KindC, Bitmap: c.bitmap, Branches: branches, Prev: 1})
		want.Cells = []api.Ref{0}
		checkAfter(t, a, call{x, item{c.hash, "y", 2}, c.level, 1}, 5, api.OK, want)
	}
}

// P8.1: the slices differ one level deeper: the single and its C-node come first, then an I-node with the generation
// and the C-node as its contents, then the C-node of the level with the I-node as its only branch.
func TestDifferentSlicesBelow(t *testing.T) {
	for _, gen := range []int{1, 4, math.MaxInt} {
		a, x := with(item{7 | 1<<6, "x", 1})
		want := a.State()
		want.Nodes = append(want.Nodes,
			api.Node{Kind: api.KindS, Hash: 7 | 2<<6, Key: "y", Value: 2},
			api.Node{Kind: api.KindC, Bitmap: 6, Branches: []api.Ref{x, 4}, Prev: 1},
			api.Node{Kind: api.KindI, Gen: gen, Main: 2},
			api.Node{Kind: api.KindC, Bitmap: 1 << 7, Branches: []api.Ref{6}, Prev: 3})
		want.Cells = []api.Ref{0, 5, 0}
		checkAfter(t, a, call{x, item{7 | 2<<6, "y", 2}, 0, gen}, 7, api.OK, want)
	}
}

// P8.1: equal hash values at level 11: a collision list alone, in the order of the keys.
func TestEqualHashesAtTheLastLevel(t *testing.T) {
	for _, c := range []struct {
		x, key string
		xFirst bool
	}{
		{"a", "b", true},
		{"b", "a", false},
		{"", "a", true},
		{"a", "", false},
		{"", "\x00", true},
		{"z", "zz", true},
		{"z", "\xff", true},
		{"\x80", "\x7f", false},
		{longest, longest[1:], false},
		{longest[1:], longest, true},
	} {
		a, x := with(item{same, c.x, 1})
		two := []api.Pair{{Key: c.key, Value: 2}, {Key: c.x, Value: 1}}
		if c.xFirst {
			slices.Reverse(two)
		}
		want := a.State()
		want.Nodes = append(want.Nodes, api.Node{Kind: api.KindL, Hash: same, Pairs: two, Prev: 1})
		want.Cells = []api.Ref{0}
		checkAfter(t, a, call{x, item{same, c.key, 2}, 11, 1}, 4, api.OK, want)
	}
}

// P8.1, example 1: equal hash values at level 10: the collision list, an I-node, and a C-node, in this order.
func TestExample1(t *testing.T) {
	a, x := with(item{0, "x", 1})
	want := a.State()
	want.Nodes = append(want.Nodes,
		api.Node{Kind: api.KindL, Pairs: []api.Pair{{Key: "a", Value: 2}, {Key: "x", Value: 1}}, Prev: 1},
		api.Node{Kind: api.KindI, Gen: 1, Main: 2},
		api.Node{Kind: api.KindC, Bitmap: 1, Branches: []api.Ref{5}, Prev: 3})
	want.Cells = []api.Ref{0, 4, 0}
	checkAfter(t, a, call{x, item{0, "a", 2}, 10, 1}, 6, api.OK, want)
}

// P8.1: equal hash values at level 0: eleven I-nodes and C-nodes above the collision list, each at its own slice.
func TestEqualHashesAtLevel0(t *testing.T) {
	a, x := with(item{same, "x", 1})
	want := a.State()
	want.Nodes = append(want.Nodes, api.Node{Kind: api.KindL, Hash: same, Pairs: []api.Pair{{Key: "x", Value: 1}, {Key: "y", Value: 2}}, Prev: 1})
	want.Cells = []api.Ref{0}
	for i := range 11 {
		n, c := api.Ref(5+2*i), api.Cell(2+2*i)
		want.Nodes = append(want.Nodes,
			api.Node{Kind: api.KindI, Gen: 2, Main: c},
			api.Node{Kind: api.KindC, Bitmap: 1 << (11 - i), Branches: []api.Ref{n}, Prev: c + 1})
		want.Cells = append(want.Cells, n-1, 0)
	}
	checkAfter(t, a, call{x, item{same, "y", 2}, 0, 2}, 26, api.OK, want)
}

// hashes returns hash values that begin to differ from h at every level, in one bit or in all from there on, and h itself.
func hashes(h uint64) []uint64 {
	all := []uint64{h, ^h, 0, math.MaxUint64}
	for i := range 64 {
		all = append(all, h^1<<i, h^math.MaxUint64<<i)
	}
	return all
}

// P8.1: every level down to the one at which the slices differ, and keys in either order. At each greater level the
// call is refused, since the paths of the keys have parted above.
func TestAllLevels(t *testing.T) {
	for _, h := range []uint64{same, 0, math.MaxUint64} {
		for _, k := range hashes(h) {
			for _, keys := range [][2]string{{"x", "y"}, {"y", "x"}} {
				a, x := with(item{h, keys[0], 1})
				for level := range 12 {
					c := call{x, item{k, keys[1], 2}, level, 3}
					if level <= first(h, k) {
						checkBuilt(t, a, c)
					} else {
						checkRefused(t, a, c, api.ErrInvalid)
					}
				}
			}
		}
	}
}

// P8.1: keys and values at their limits, also the same value for both keys.
func TestKeysAndValues(t *testing.T) {
	keys := []string{"", "\x00", "a", "b", "\xff\xfe", longest[1:], longest, strings.Repeat("\xff", 64), strings.Repeat("é", 32)}
	for _, key := range keys {
		for _, other := range keys {
			if key == other {
				continue
			}
			for _, value := range []uint64{0, 1, math.MaxUint64} {
				a, x := with(item{same, key, 1})
				for _, hash := range []uint64{same, same ^ 1<<50, same ^ 1<<60, same ^ 1} {
					checkBuilt(t, a, call{x, item{hash, other, value}, 0, 1})
					checkBuilt(t, a, call{x, item{hash, other, value}, first(same, hash), 1})
				}
			}
		}
	}
}

// P8.1: stores that already have nodes and cells, of generations before and after that of the call, and several calls
// on one store: what there was stays as it is.
func TestFilledStores(t *testing.T) {
	for _, hash := range []uint64{same, same ^ 1<<6, same ^ 1<<59, same ^ 1<<63, ^uint64(same)} {
		for _, gen := range []int{1, 2, 3, 1000, math.MaxInt} {
			a := filled(item{same, "x", math.MaxUint64})
			if n := a.Node(7); n.Key != "x" {
				t.Fatalf("node 7 is %#v, want X", n)
			}
			for level := range first(same, hash) + 1 {
				checkBuilt(t, a, call{7, item{hash, "key", 1 << 63}, level, gen})
				checkRefused(t, a, call{7, item{hash, "x", 1 << 63}, level, gen}, api.ErrInvalid)
			}
		}
	}
}

// P8.1: X may be a single that an earlier call allocated, or one that stands in several C-nodes.
func TestSinglesOfEarlierCalls(t *testing.T) {
	a, x := with(item{same, "a", 1})
	checkBuilt(t, a, call{x, item{same ^ 1<<20, "b", 2}, 0, 1})
	checkBuilt(t, a, call{x, item{same ^ 1<<30, "c", 3}, 1, 2})
	b := api.Ref(4)
	if n := a.Node(b); n.Key != "b" {
		t.Fatalf("node 4 is %#v, want the single of b", n)
	}
	checkBuilt(t, a, call{b, item{same ^ 1<<20, "d", 4}, 3, 2})
	checkBuilt(t, a, call{b, item{same ^ 1<<20 ^ 1<<40, "d", 4}, 2, 3})
}

// P8.1: what counts of X is that it is of KindS. A store does not check its nodes, so its key may be longer than keys
// are, and it may have fields that singles do not have.
func TestUnusualSingles(t *testing.T) {
	for _, n := range []api.Node{
		item{same, tooLong, 1}.single(),
		item{same, strings.Repeat("k", 1000), 1}.single(),
		{Kind: api.KindS},
		{Kind: api.KindS, Gen: -1, Bitmap: 3, Hash: same, Key: "x", Pairs: []api.Pair{{Key: "b"}, {Key: "a"}}, Old: -1},
	} {
		a := arena.New()
		x := a.Alloc(n, 0)
		for _, hash := range hashes(n.Hash) {
			checkBuilt(t, a, call{x, item{hash, "y", 1}, 0, 1})
		}
	}
}

// recorder is another Store than an Arena. It writes down which calls that change a store are made.
type recorder struct {
	arena.Store
	kinds  []int
	others int
}

func (r *recorder) Alloc(n api.Node, initial api.Ref) api.Ref {
	r.kinds = append(r.kinds, n.Kind)
	return r.Store.Alloc(n, initial)
}

func (r *recorder) NewCell(initial api.Ref) api.Cell {
	r.others++
	return r.Store.NewCell(initial)
}

func (r *recorder) NewGen() int {
	r.others++
	return r.Store.NewGen()
}

func (r *recorder) Load(c api.Cell) api.Ref {
	r.others++
	return r.Store.Load(c)
}

func (r *recorder) CAS(c api.Cell, old, new api.Ref) bool {
	r.others++
	return r.Store.CAS(c, old, new)
}

// P8.1: any Store will do, and nothing but Alloc is called to change it, once for each node and in the procedure's order.
func TestOtherStore(t *testing.T) {
	for _, c := range []struct {
		hash  uint64
		level int
		want  []int
	}{
		{same, 11, []int{api.KindL}},
		{same, 10, []int{api.KindL, api.KindI, api.KindC}},
		{same, 9, []int{api.KindL, api.KindI, api.KindC, api.KindI, api.KindC}},
		{same ^ 1, 0, []int{api.KindS, api.KindC}},
		{same ^ 1<<6, 0, []int{api.KindS, api.KindC, api.KindI, api.KindC}},
		{same ^ 1<<60, 8, []int{api.KindS, api.KindC, api.KindI, api.KindC, api.KindI, api.KindC}},
		{same ^ 1<<60, 11, nil},
	} {
		a, x := with(item{same, "x", 1})
		r := &recorder{Store: a}
		call{x, item{c.hash, "y", 2}, c.level, 1}.on(r)
		if !slices.Equal(r.kinds, c.want) || r.others != 0 {
			t.Errorf("hash %x, level %d: allocated kinds are %v, want %v, and %d other calls", c.hash, c.level, r.kinds, c.want, r.others)
		}
	}
}

// outOfRange returns calls that differ from a given one in a level or a generation that is out of range.
func outOfRange(c call) []call {
	var all []call
	for _, level := range []int{-1, -2, -11, math.MinInt, 12, 13, 64, math.MaxInt32, math.MaxInt} {
		d := c
		d.level = level
		all = append(all, d)
		d.gen = 0
		all = append(all, d)
	}
	for _, gen := range []int{0, -1, -2, math.MinInt32, math.MinInt} {
		d := c
		d.gen = gen
		all = append(all, d)
	}
	return all
}

// P8.1: ErrRange for levels that are not from 0 to 11 and generations less than 1, also where no I-node is needed.
func TestOutOfRange(t *testing.T) {
	a := filled(item{same, "x", 1})
	for _, hash := range []uint64{same, same ^ 1, same ^ 1<<60} {
		for _, level := range []int{0, first(same, hash)} {
			c := call{7, item{hash, "y", 2}, level, 1}
			for _, d := range outOfRange(c) {
				checkRefused(t, a, d, api.ErrRange)
			}
			checkBuilt(t, a, c)
		}
	}
}

// invalid returns calls on filled(item{same, "x", 1}), each of which is invalid for one reason, but for x that is no
// single.
func invalid() []call {
	return []call{
		{7, item{same, tooLong, 2}, 0, 1},
		{7, item{same ^ 1, tooLong, 2}, 0, 1},
		{7, item{same, strings.Repeat("\xff", 65), 2}, 11, 1},
		{7, item{same, strings.Repeat("é", 33), 2}, 11, 1},
		{7, item{same, strings.Repeat("y", 10000), 2}, 10, 1},
		{7, item{same, "x", 2}, 0, 1},
		{7, item{same, "x", 1}, 11, 1},
		{7, item{same ^ 1, "x", 1}, 0, 1},
		{7, item{same ^ 1<<60, "x", 1}, 10, 1},
		{7, item{same ^ 1, "y", 2}, 1, 1},
		{7, item{same ^ 1, "y", 2}, 11, 1},
		{7, item{^uint64(same), "y", 2}, 1, 1},
		{7, item{same ^ 1<<6, "y", 2}, 2, 1},
		{7, item{same ^ 1<<6, "y", 2}, 3, 1},
		{7, item{same ^ 1<<59, "y", 2}, 10, 1},
		{7, item{same ^ 1<<60, "y", 2}, 11, 1},
		{7, item{same ^ 1<<63, "y", 2}, 11, 1},
	}
}

// P8.1: ErrInvalid for keys that are too long or X's own, and for slices that differ at a level less than level. ErrRange
// comes before it.
func TestInvalid(t *testing.T) {
	a := filled(item{same, "x", 1})
	for _, c := range invalid() {
		checkRefused(t, a, c, api.ErrInvalid)
		for _, d := range outOfRange(c) {
			checkRefused(t, a, d, api.ErrRange)
		}
	}
}

// P8.1: ErrInvalid for nodes of every other kind and for numbers of no node, whatever else is wrong. ErrRange comes
// before it.
func TestNoSingle(t *testing.T) {
	a := filled(item{same, "x", 1})
	nodes, _, _ := a.Counts()
	refs := []api.Ref{0, -1, -7, api.Ref(nodes + 1), math.MinInt, math.MaxInt32, math.MaxInt}
	for i := range nodes {
		if r := api.Ref(i + 1); a.Node(r).Kind != api.KindS {
			refs = append(refs, r)
		}
	}
	for _, x := range refs {
		for _, c := range []call{
			{x, item{same, "y", 2}, 0, 1},
			{x, item{same, "y", 2}, 11, 1},
			{x, item{0, "y", 2}, 0, 1},
			{x, item{0, "y", 2}, 11, 1},
			{x, item{0, "", 0}, 0, 1},
			{x, item{same, "key", 2}, 0, 1},
			{x, item{1, tooLong, 2}, 11, 1},
		} {
			checkRefused(t, a, c, api.ErrInvalid)
			c.level = -1
			checkRefused(t, a, c, api.ErrRange)
			c.level, c.gen = 11, 0
			checkRefused(t, a, c, api.ErrRange)
		}
	}
}

// R1: no store at all is an argument too. It has no node x.
func TestNoStore(t *testing.T) {
	for _, c := range []struct {
		call call
		want api.Errno
	}{
		{call{3, item{same, "y", 2}, 0, 1}, api.ErrInvalid},
		{call{0, item{0, "", 0}, 11, 1}, api.ErrInvalid},
		{call{3, item{same, "y", 2}, 12, 1}, api.ErrRange},
		{call{3, item{same, "y", 2}, 0, 0}, api.ErrRange},
	} {
		if r, e := c.call.on(nil); r != 0 || e != c.want {
			t.Errorf("Build%+v without a store is %d, %d, want 0, %d", c.call, r, e, c.want)
		}
	}
}

// reached is what is in a trie.
type reached struct {
	pairs  []api.Pair
	inners int
}

// walk visits the trie below a node of an arena.
func (f *reached) walk(a *arena.Arena, r api.Ref) {
	n := a.Node(r)
	switch n.Kind {
	case api.KindS:
		f.pairs = append(f.pairs, api.Pair{Key: n.Key, Value: n.Value})
	case api.KindL:
		f.pairs = append(f.pairs, n.Pairs...)
	case api.KindI:
		f.inners++
		f.walk(a, a.Load(n.Main))
	case api.KindC:
		for _, b := range n.Branches {
			f.walk(a, b)
		}
	}
}

// follow goes the path of a hash value from a main node of a level, and returns the node at its end.
func follow(a *arena.Arena, r api.Ref, hash uint64, level int) api.Node {
	n := a.Node(r)
	for n.Kind == api.KindC {
		at := slices.Index(indices(n.Bitmap), keyhash.Slice(hash, level))
		if at < 0 {
			return api.Node{}
		}
		n = a.Node(n.Branches[at])
		if n.Kind == api.KindI {
			n, level = a.Node(a.Load(n.Main)), level+1
		}
	}
	return n
}

// indices returns the elements of a bitmap.
func indices(bitmap uint64) []int {
	var l []int
	for i := range 64 {
		if bitmap>>i&1 != 0 {
			l = append(l, i)
		}
	}
	return l
}

// The consequences: the trie below the result contains exactly the two pairs, with Common - level I-nodes. Each pair is
// where its hash value leads.
func TestConsequences(t *testing.T) {
	left := item{same, "x", 1}
	for _, hash := range hashes(same) {
		right := item{hash, "y", 2}
		common := keyhash.Common(same, hash)
		for level := range common + 1 {
			a := filled(left)
			r, e := call{7, right, level, 1}.on(a)
			if e != api.OK || !node.Main(a.Node(r)) {
				t.Fatalf("Build with %x at level %d is %d, %d: %#v", hash, level, r, e, a.Node(r))
			}
			var f reached
			f.walk(a, r)
			slices.SortFunc(f.pairs, func(p, q api.Pair) int { return strings.Compare(p.Key, q.Key) })
			if !slices.Equal(f.pairs, []api.Pair{left.pair(), right.pair()}) || f.inners != common-level {
				t.Errorf("hash %x, level %d: the trie has %v and %d I-nodes, want %d", hash, level, f.pairs, f.inners, common-level)
			}
			for _, i := range []item{left, right} {
				n := follow(a, r, i.hash, level)
				if !node.Equal(n, i.single()) && !slices.Contains(n.Pairs, i.pair()) {
					t.Errorf("hash %x, level %d: the path of %v leads to %#v", hash, level, i, n)
				}
			}
		}
	}
}

// P8.1: what is allocated is valid, and leaves a proper state.
func TestNewNodesAreValid(t *testing.T) {
	for _, hash := range hashes(same) {
		a, x := with(item{same, "x", 1})
		a.NewGen()
		if _, e := (call{x, item{hash, longest, 2}, 0, 1}).on(a); e != api.OK {
			t.Fatalf("hash %x: Build is %d", hash, e)
		}
		if _, e := arena.Of(a.State()); e != api.OK {
			t.Errorf("hash %x: the state is not proper: %#v", hash, a.State())
		}
	}
}
