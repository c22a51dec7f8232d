package tomb_test

import (
	"math"
	"reflect"
	"slices"
	"strconv"
	"strings"
	"testing"

	"ctrie/api"
	"ctrie/node"
	"ctrie/tomb"
)

// longest and tooLong are keys of MaxKey bytes and of one byte more.
var (
	longest = strings.Repeat("k", 64)
	tooLong = strings.Repeat("k", 65)
)

// prevs are values of Prev that a valid node may have.
var prevs = []api.Cell{0, 1, 8, math.MaxInt}

// cNode returns the C-node with a branch for each element of a bitmap.
func cNode(bitmap uint64) api.Node {
	c := api.Node{Kind: api.KindC, Bitmap: bitmap}
	for i := range 64 {
		if bitmap>>i&1 != 0 {
			c.Branches = append(c.Branches, api.Ref(i+3))
		}
	}
	return c
}

// crowded returns C-nodes of no branch and of several ones.
func crowded() []api.Node {
	var all []api.Node
	for _, bitmap := range []uint64{0, 3, 9, 1<<63 | 1, 3 << 62, 21, 0x8421084210842108, math.MaxUint64 >> 1, math.MaxUint64} {
		all = append(all, cNode(bitmap))
	}
	return all
}

// lone returns C-nodes of one branch.
func lone() []api.Node {
	var all []api.Node
	for i := range 64 {
		all = append(all, cNode(1<<i))
	}
	return append(all,
		api.Node{Kind: api.KindC, Bitmap: 8, Branches: []api.Ref{1}},
		api.Node{Kind: api.KindC, Bitmap: 8, Branches: []api.Ref{math.MaxInt}, Pairs: []api.Pair{}})
}

// badC returns C-nodes that are not valid. Most have one branch.
func badC() []api.Node {
	one := []api.Ref{5}
	return []api.Node{
		{Kind: api.KindC, Bitmap: 16},
		{Kind: api.KindC, Branches: one},
		{Kind: api.KindC, Bitmap: 17, Branches: one},
		{Kind: api.KindC, Bitmap: 16, Branches: []api.Ref{5, 6}, Prev: 7},
		{Kind: api.KindC, Bitmap: 16, Branches: []api.Ref{0}, Prev: 7},
		{Kind: api.KindC, Bitmap: 16, Branches: []api.Ref{-5}},
		{Kind: api.KindC, Bitmap: 16, Branches: one, Prev: -1},
		{Kind: api.KindC, Bitmap: 16, Branches: one, Gen: 1, Prev: 7},
		{Kind: api.KindC, Bitmap: 16, Branches: one, Main: 1},
		{Kind: api.KindC, Bitmap: 16, Branches: one, Hash: 1},
		{Kind: api.KindC, Bitmap: 16, Branches: one, Key: "k"},
		{Kind: api.KindC, Bitmap: 16, Branches: one, Value: 1},
		{Kind: api.KindC, Bitmap: 16, Branches: one, Pairs: []api.Pair{{Key: "a", Value: 1}, {Key: "b", Value: 2}}, Prev: 7},
		{Kind: api.KindC, Bitmap: 16, Branches: one, Old: 1},
		{Kind: api.KindC, Bitmap: 16, Branches: one, Expected: 1},
		{Kind: api.KindC, Bitmap: 16, Branches: one, New: 1},
		{Kind: api.KindC, Bitmap: 16, Branches: one, Status: 1},
		{Kind: api.KindC, Prev: -1},
	}
}

// ofKind returns nodes of a kind: one with every field that a node can have, one without any, and one of the fields of
// each kind, so that one of them is valid if the kind is one of the constants.
func ofKind(kind int) []api.Node {
	two := []api.Pair{{Key: "a", Value: 1}, {Key: "b", Value: 2}}
	return []api.Node{
		{Kind: kind},
		{Kind: kind, Gen: 1, Main: 2},
		{Kind: kind, Bitmap: 16, Branches: []api.Ref{5}, Prev: 3},
		{Kind: kind, Bitmap: 17, Branches: []api.Ref{5, 6}},
		{Kind: kind, Hash: 7, Key: "key", Value: 9},
		{Kind: kind, Hash: 7, Key: "key", Value: 9, Prev: 3},
		{Kind: kind, Hash: 7, Key: tooLong, Value: 9},
		{Kind: kind, Hash: 7, Pairs: two, Prev: 3},
		{Kind: kind, Old: 5},
		{Kind: kind, Old: 5, Expected: 6, New: 7, Status: 8},
		{
			Kind: kind, Gen: 1, Main: 2, Bitmap: 16, Branches: []api.Ref{5}, Hash: 7, Key: "key", Value: 9, Pairs: two,
			Prev: 3, Old: 4, Expected: 5, New: 6, Status: 7,
		},
		{Kind: kind, Gen: -1, Main: -2, Prev: -3, Old: -4, Expected: -5, New: -6, Status: -7},
	}
}

// others returns nodes of all kinds but one, also of numbers that are no kinds.
func others(but int) []api.Node {
	var all []api.Node
	for _, kind := range []int{
		math.MinInt, -1, 0, api.KindMark, api.KindI, api.KindC, api.KindS, api.KindT, api.KindL, api.KindFailed, api.KindDesc,
		9, 256 + api.KindS, 256 + api.KindT, 256 + api.KindL, math.MaxInt,
	} {
		if kind != but {
			all = append(all, ofKind(kind)...)
		}
	}
	return all
}

// Levels at which a C-node may be contracted, and at which it may not: that of the root, and numbers that are no levels.
var (
	deep = []int{1, 2, 3, 10, 11, 12, 64, math.MaxInt32, math.MaxInt}
	top  = []int{0, -1, -2, -11, math.MinInt32, math.MinInt}
)

// single and tombOf return the two nodes of a key.
func single(hash uint64, key string, value uint64) api.Node {
	return api.Node{Kind: api.KindS, Hash: hash, Key: key, Value: value}
}

func tombOf(hash uint64, key string, value uint64) api.Node {
	return api.Node{Kind: api.KindT, Hash: hash, Key: key, Value: value}
}

// singles returns singles of ordinary and of extreme fields.
func singles() []api.Node {
	return []api.Node{
		single(7, "a", 1), single(0, "", 0), single(math.MaxUint64, longest, math.MaxUint64), single(3, "\x00\xff", 1<<63),
	}
}

// checkContracted reports an error if Contracted does not return a node, each time.
func checkContracted(t *testing.T, c api.Node, level int, sole, want api.Node) {
	t.Helper()
	for range 2 {
		if got := tomb.Contracted(c, level, sole); !node.Equal(got, want) {
			t.Errorf("Contracted(%#v, %d, %#v) is %#v, want %#v", c, level, sole, got, want)
		}
	}
}

// P7.1: a C-node of one branch, at a level greater than 0, becomes the tomb of its single, which has a Prev of 0.
func TestContracted(t *testing.T) {
	for _, c := range lone() {
		for _, c.Prev = range prevs {
			for _, level := range deep {
				for _, s := range singles() {
					checkContracted(t, c, level, s, tombOf(s.Hash, s.Key, s.Value))
				}
			}
		}
	}
}

// P7.1: a node of KindS need not be valid; the tomb has no other fields than Hash, Key and Value of it.
func TestContractedToTombAlone(t *testing.T) {
	for _, s := range ofKind(api.KindS) {
		for _, c := range lone() {
			c.Prev = 6
			checkContracted(t, c, 3, s, tombOf(s.Hash, s.Key, s.Value))
		}
	}
}

// P7.1: a C-node stays, with its Prev, at level 0 and at levels less than 0; at every level, if it has no branch, or
// several.
func TestContractedStays(t *testing.T) {
	for _, c := range slices.Concat(lone(), crowded()) {
		levels := top
		if len(c.Branches) != 1 {
			levels = slices.Concat(top, deep)
		}
		for _, c.Prev = range prevs {
			for _, level := range levels {
				for _, s := range singles() {
					checkContracted(t, c, level, s, c)
				}
			}
		}
	}
}

// P7.1: a C-node whose only branch is no single stays, with its Prev.
func TestContractedOverOthers(t *testing.T) {
	for _, c := range lone() {
		for _, c.Prev = range prevs {
			for _, sole := range others(api.KindS) {
				checkContracted(t, c, 3, sole, c)
			}
		}
	}
}

// P7.1: nodes of other kinds, and C-nodes that are not valid, stay as they are, with their Prev, at every level.
func TestContractedOfUnfit(t *testing.T) {
	for _, n := range slices.Concat(others(api.KindC), badC()) {
		for _, level := range slices.Concat(top, deep) {
			checkContracted(t, n, level, single(7, "a", 1), n)
			checkContracted(t, n, level, n, n)
		}
	}
}

// checkUntombed reports an error if Untombed does not return a node, each time; the zero node is none.
func checkUntombed(t *testing.T, n, want api.Node) {
	t.Helper()
	for range 2 {
		got, ok := tomb.Untombed(n)
		if !reflect.DeepEqual(got, want) || ok != (want.Kind != 0) {
			t.Errorf("Untombed(%#v) is %#v, %v, want %#v", n, got, ok, want)
		}
	}
}

// P7.2: a node of KindT, valid or not, becomes the single with its Hash, Key and Value, and nothing else; Prev is 0.
func TestUntombed(t *testing.T) {
	tombs := ofKind(api.KindT)
	for _, s := range singles() {
		for _, prev := range append(prevs, -1) {
			n := tombOf(s.Hash, s.Key, s.Value)
			n.Prev = prev
			tombs = append(tombs, n)
		}
	}
	for _, n := range tombs {
		checkUntombed(t, n, single(n.Hash, n.Key, n.Value))
	}
}

// P7.2: there is none for any other kind.
func TestUntombedOfOthers(t *testing.T) {
	for _, n := range others(api.KindT) {
		checkUntombed(t, n, api.Node{})
	}
}

// contents are the values of the keys of a collision list.
type contents map[string]uint64

// pairs returns the list in the order of the keys.
func (c contents) pairs() []api.Pair {
	var l []api.Pair
	for k, v := range c {
		l = append(l, api.Pair{Key: k, Value: v})
	}
	slices.SortFunc(l, func(a, b api.Pair) int { return strings.Compare(a.Key, b.Key) })
	return l
}

// node returns the main node of the contents: a collision list, or a tomb if there is one key alone.
func (c contents) node(hash uint64) api.Node {
	l := c.pairs()
	if len(l) == 1 {
		return tombOf(hash, l[0].Key, l[0].Value)
	}
	return api.Node{Kind: api.KindL, Hash: hash, Pairs: l}
}

// with returns other contents, in which a key has a value.
func (c contents) with(key string, value uint64) contents {
	other := contents{key: value}
	for k, v := range c {
		if k != key {
			other[k] = v
		}
	}
	return other
}

// without returns other contents, without a key.
func (c contents) without(key string) contents {
	other := c.with(key, 0)
	delete(other, key)
	return other
}

// samples returns the contents of collision lists of two, three and more pairs.
func samples() []contents {
	many := contents{}
	for i := range 40 {
		many["key"+strconv.Itoa(i*3)] = uint64(i)
	}
	return []contents{
		{"a": 1, "b": 2},
		{"": 0, "a": 0},
		{"": 7, longest: math.MaxUint64},
		{"b": 5, "d": 5},
		{"b": 1, "d": 2, "f": 3},
		{"a": 3, "aa": 2, "aaa": 1},
		{"": 1, "\x00": 2, "\x00\x00": 3},
		{"k": 1, longest: 2, "l": 3, "\xff": 4},
		{"b": 4, "d": 3, "f": 2, "h": 1, longest[:63]: 0},
		many,
	}
}

// keys are keys of the samples, and others before, between and behind them.
func keys(c contents) []string {
	all := []string{"", "\x00", "a", "aa", "ab", "b", "c", "d", "e", "f", "g", "z", "\xff", "\xff\xff", "key", "key1", "key7", "key999"}
	all = append(all, longest, longest[:63], "a"+longest[1:], strings.Repeat("\xff", 64))
	for k := range c {
		all = append(all, k)
	}
	slices.Sort(all)
	return slices.Compact(all)
}

// hashes are hash values of collision lists.
var hashes = []uint64{0, 4, 63, 1 << 63, math.MaxUint64}

// checkGrown reports an error if Grown does not return a node, each time; the zero node is none.
func checkGrown(t *testing.T, l api.Node, key string, value uint64, want api.Node) {
	t.Helper()
	for range 2 {
		got, ok := tomb.Grown(l, key, value)
		if ok != (want.Kind != 0) || ok && !node.Equal(got, want) || !ok && !reflect.DeepEqual(got, want) {
			t.Errorf("Grown(%#v, %q, %d) is %#v, %v, want %#v", l, key, value, got, ok, want)
		}
	}
}

// checkShrunk reports an error if Shrunk does not return a node, each time; the zero node is none.
func checkShrunk(t *testing.T, l api.Node, key string, want api.Node) {
	t.Helper()
	for range 2 {
		got, ok := tomb.Shrunk(l, key)
		if ok != (want.Kind != 0) || ok && !node.Equal(got, want) || !ok && !reflect.DeepEqual(got, want) {
			t.Errorf("Shrunk(%#v, %q) is %#v, %v, want %#v", l, key, got, ok, want)
		}
	}
}

// P7.3: every key gets its value, whether it is there already or not, and the others keep theirs; Hash stays, Prev is 0.
func TestGrown(t *testing.T) {
	for _, c := range samples() {
		for _, hash := range hashes {
			l := c.node(hash)
			for _, l.Prev = range prevs {
				for _, k := range keys(c) {
					for _, v := range []uint64{0, 2, math.MaxUint64} {
						checkGrown(t, l, k, v, c.with(k, v).node(hash))
					}
				}
			}
		}
	}
}

// P7.3: a key with its value as before gives an equal list, with a Prev of 0.
func TestGrownBySame(t *testing.T) {
	for _, c := range samples() {
		l := c.node(4)
		l.Prev = 8
		for k, v := range c {
			checkGrown(t, l, k, v, c.node(4))
		}
	}
}

// P7.3: the first, a middle and the last place, and the place of a key that is there already.
func TestPlacesOfGrown(t *testing.T) {
	l := api.Node{Kind: api.KindL, Hash: 4, Pairs: []api.Pair{{Key: "b", Value: 1}, {Key: "d", Value: 2}}, Prev: 8}
	cases := []struct {
		key  string
		want []api.Pair
	}{
		{"", []api.Pair{{Key: "", Value: 9}, {Key: "b", Value: 1}, {Key: "d", Value: 2}}},
		{"a", []api.Pair{{Key: "a", Value: 9}, {Key: "b", Value: 1}, {Key: "d", Value: 2}}},
		{"c", []api.Pair{{Key: "b", Value: 1}, {Key: "c", Value: 9}, {Key: "d", Value: 2}}},
		{"e", []api.Pair{{Key: "b", Value: 1}, {Key: "d", Value: 2}, {Key: "e", Value: 9}}},
		{longest, []api.Pair{{Key: "b", Value: 1}, {Key: "d", Value: 2}, {Key: longest, Value: 9}}},
		{"b", []api.Pair{{Key: "b", Value: 9}, {Key: "d", Value: 2}}},
		{"d", []api.Pair{{Key: "b", Value: 1}, {Key: "d", Value: 9}}},
	}
	for _, c := range cases {
		checkGrown(t, l, c.key, 9, api.Node{Kind: api.KindL, Hash: 4, Pairs: c.want})
	}
}

// P7.3: a key of more than MaxKey bytes is refused.
func TestGrownByLongKey(t *testing.T) {
	for _, c := range samples() {
		for _, key := range []string{tooLong, "a" + longest, strings.Repeat("\x00", 65), strings.Repeat("é", 33), strings.Repeat("k", 1000)} {
			checkGrown(t, c.node(4), key, 1, api.Node{})
		}
	}
}

// P7.3: each key of a list can be removed; the others keep their values, in a list or, if there is one alone, in a tomb.
// Hash stays, Prev is 0.
func TestShrunk(t *testing.T) {
	for _, c := range samples() {
		for _, hash := range hashes {
			l := c.node(hash)
			for _, l.Prev = range prevs {
				for k := range c {
					checkShrunk(t, l, k, c.without(k).node(hash))
				}
			}
		}
	}
}

// P7.3: a key that does not occur is refused.
func TestShrunkByAbsent(t *testing.T) {
	for _, c := range samples() {
		for _, k := range append(keys(c), tooLong, "a"+longest) {
			if _, ok := c[k]; !ok {
				checkShrunk(t, c.node(4), k, api.Node{})
			}
		}
	}
}

// P7.3: two pairs leave a tomb, three and more a list.
func TestPlacesOfShrunk(t *testing.T) {
	a, b, c, d := api.Pair{Key: "a", Value: 1}, api.Pair{Key: "b", Value: 2}, api.Pair{Key: "c", Value: 3}, api.Pair{Key: "d", Value: 4}
	list := func(l ...api.Pair) api.Node { return api.Node{Kind: api.KindL, Hash: 4, Pairs: l} }
	cases := []struct {
		l    []api.Pair
		key  string
		want api.Node
	}{
		{[]api.Pair{a, b}, "a", tombOf(4, "b", 2)},
		{[]api.Pair{a, b}, "b", tombOf(4, "a", 1)},
		{[]api.Pair{a, b}, "c", api.Node{}},
		{[]api.Pair{a, b, c}, "a", list(b, c)},
		{[]api.Pair{a, b, c}, "b", list(a, c)},
		{[]api.Pair{a, b, c}, "c", list(a, b)},
		{[]api.Pair{a, b, c}, "d", api.Node{}},
		{[]api.Pair{a, b, c, d}, "a", list(b, c, d)},
		{[]api.Pair{a, b, c, d}, "c", list(a, b, d)},
		{[]api.Pair{a, b, c, d}, "d", list(a, b, c)},
		{[]api.Pair{a, b, c, d}, "", api.Node{}},
	}
	for _, c := range cases {
		checkShrunk(t, api.Node{Kind: api.KindL, Hash: 4, Pairs: c.l, Prev: 8}, c.key, c.want)
	}
}

// badL returns nodes of KindL that are not valid. All but the first ones have the key "a".
func badL() []api.Node {
	a, b := api.Pair{Key: "a", Value: 1}, api.Pair{Key: "b", Value: 2}
	two := []api.Pair{a, b}
	return []api.Node{
		{Kind: api.KindL},
		{Kind: api.KindL, Hash: 4, Pairs: []api.Pair{}, Prev: 3},
		{Kind: api.KindL, Pairs: []api.Pair{b}},
		{Kind: api.KindL, Pairs: []api.Pair{a}},
		{Kind: api.KindL, Pairs: []api.Pair{b, a}},
		{Kind: api.KindL, Pairs: []api.Pair{a, a}},
		{Kind: api.KindL, Pairs: []api.Pair{a, {Key: "c", Value: 3}, b}},
		{Kind: api.KindL, Pairs: []api.Pair{a, b, b}},
		{Kind: api.KindL, Pairs: []api.Pair{a, {Key: tooLong, Value: 3}}},
		{Kind: api.KindL, Pairs: []api.Pair{a, {Key: "b" + longest, Value: 3}, {Key: "c", Value: 3}}},
		{Kind: api.KindL, Pairs: two, Prev: -1},
		{Kind: api.KindL, Pairs: two, Gen: 1},
		{Kind: api.KindL, Pairs: two, Main: 1},
		{Kind: api.KindL, Pairs: two, Bitmap: 1},
		{Kind: api.KindL, Pairs: two, Branches: []api.Ref{5}},
		{Kind: api.KindL, Pairs: two, Key: "a"},
		{Kind: api.KindL, Pairs: two, Value: 1},
		{Kind: api.KindL, Pairs: two, Old: 1},
		{Kind: api.KindL, Pairs: two, Expected: 1},
		{Kind: api.KindL, Pairs: two, New: 1},
		{Kind: api.KindL, Pairs: two, Status: 1},
	}
}

// P7.3: nodes of other kinds, and lists that are not valid, are refused.
func TestListsOfUnfit(t *testing.T) {
	for _, n := range slices.Concat(others(api.KindL), badL()) {
		for _, key := range []string{"", "a", "b", "c", "key", longest, tooLong} {
			checkGrown(t, n, key, 1, api.Node{})
			checkShrunk(t, n, key, api.Node{})
		}
	}
}

// A list may have empty branches instead of nil ones.
func TestEmptyBranches(t *testing.T) {
	c := contents{"a": 1, "b": 2}
	l := c.node(4)
	l.Branches = []api.Ref{}
	checkGrown(t, l, "c", 3, c.with("c", 3).node(4))
	checkShrunk(t, l, "a", c.without("a").node(4))
}

// within returns a list in the middle of a longer one, so that it has memory behind its last element, and the longer one.
func within[E any](l []E, filler E) (part, whole []E) {
	whole = append([]E{filler}, l...)
	whole = slices.Clip(append(whole, filler, filler, filler))
	return whole[1 : 1+len(l)], whole
}

// overwrite changes a list up to its capacity.
func overwrite[E any](l []E, filler E) {
	l = l[:cap(l)]
	for i := range l {
		l[i] = filler
	}
}

// all returns nodes of every sort, valid and not.
func all() []api.Node {
	nodes := slices.Concat(lone(), crowded(), badC(), badL(), others(0), ofKind(0))
	for _, c := range samples() {
		nodes = append(nodes, c.node(4))
	}
	return nodes
}

// R3: no call changes its argument, nor the memory around its lists.
func TestArgumentsStay(t *testing.T) {
	for _, n := range all() {
		before := n
		before.Branches, before.Pairs = slices.Clone(n.Branches), slices.Clone(n.Pairs)
		var refs []api.Ref
		var pairs []api.Pair
		n.Branches, refs = within(n.Branches, 77)
		n.Pairs, pairs = within(n.Pairs, api.Pair{Key: "x", Value: 77})
		refsBefore, pairsBefore := slices.Clone(refs), slices.Clone(pairs)
		for _, level := range []int{-1, 0, 3} {
			tomb.Contracted(n, level, single(7, "a", 1))
			tomb.Contracted(n, level, n)
			tomb.Contracted(cNode(8), level, n)
		}
		tomb.Untombed(n)
		for _, k := range []string{"", "a", "b", "c", "d", "z", "key6", longest, tooLong} {
			tomb.Grown(n, k, 9)
			tomb.Shrunk(n, k)
		}
		if !node.Equal(n, before) || !slices.Equal(refs, refsBefore) || !slices.Equal(pairs, pairsBefore) {
			t.Fatalf("a call changes %#v, or what is around its lists, to %#v, %v, %v", before, n, refs, pairs)
		}
	}
}

// call returns a node of an argument, and tells whether there is one.
type call func(n api.Node) (api.Node, bool)

// checkNew reports an error if the results of a call share memory with its argument or with each other, also behind
// their last elements.
func checkNew(t *testing.T, what string, n api.Node, f call) {
	t.Helper()
	filler := api.Pair{Key: "x", Value: 77}
	var refs []api.Ref
	var pairs []api.Pair
	n.Branches, refs = within(n.Branches, 77)
	n.Pairs, pairs = within(n.Pairs, filler)
	one, ok := f(n)
	other, again := f(n)
	if ok != again || !node.Equal(one, other) {
		t.Fatalf("%s of %#v is %#v, %v, and then %#v, %v", what, n, one, ok, other, again)
	}
	want, refsBefore, pairsBefore := one, slices.Clone(refs), slices.Clone(pairs)
	want.Branches, want.Pairs = slices.Clone(one.Branches), slices.Clone(one.Pairs)
	overwrite(one.Branches, 1000)
	overwrite(one.Pairs, api.Pair{Key: "y", Value: 1000})
	if !node.Equal(other, want) || !slices.Equal(refs, refsBefore) || !slices.Equal(pairs, pairsBefore) {
		t.Fatalf("writing over a result of %s changes another one to %#v, or its argument to %#v", what, other, n)
	}
	overwrite(refs, 1000)
	overwrite(pairs, api.Pair{Key: "y", Value: 1000})
	if !node.Equal(other, want) {
		t.Fatalf("writing over the argument of %s changes a result to %#v, want %#v", what, other, want)
	}
}

// R3: the lists of results are new: those of Grown and Shrunk, and also those of a node that Contracted returns.
func TestResultsAreNew(t *testing.T) {
	for _, n := range all() {
		for _, level := range []int{0, 3} {
			checkNew(t, "Contracted", n, func(n api.Node) (api.Node, bool) { return tomb.Contracted(n, level, single(7, "a", 1)), true })
			checkNew(t, "Contracted", n, func(n api.Node) (api.Node, bool) { return tomb.Contracted(n, level, api.Node{}), true })
		}
		checkNew(t, "Untombed", n, tomb.Untombed)
		for _, k := range []string{"", "a", "b", "c", "d", "z", "key6", longest} {
			checkNew(t, "Grown by "+k, n, func(n api.Node) (api.Node, bool) { return tomb.Grown(n, k, 9) })
			checkNew(t, "Shrunk by "+k, n, func(n api.Node) (api.Node, bool) { return tomb.Shrunk(n, k) })
		}
	}
}

// The chapter's first consequence: Untombed undoes Contracted.
func TestUntombedAfterContracted(t *testing.T) {
	for _, c := range lone() {
		for _, level := range deep {
			for _, s := range singles() {
				n := tomb.Contracted(c, level, s)
				n.Prev = 6
				checkUntombed(t, n, s)
			}
		}
	}
}

// The chapter's second consequence: shrinking a grown list by the same new key gives the list, but for Prev.
func TestShrunkAfterGrown(t *testing.T) {
	for _, c := range samples() {
		l := c.node(4)
		l.Prev = 8
		for _, k := range keys(c) {
			if _, ok := c[k]; ok {
				continue
			}
			more, _ := tomb.Grown(l, k, 9)
			more.Prev = 6
			checkShrunk(t, more, k, c.node(4))
		}
	}
}

// The chapter's first example.
func TestExampleOfContracted(t *testing.T) {
	c := api.Node{Kind: api.KindC, Bitmap: 1 << 12, Branches: []api.Ref{5}}
	checkContracted(t, c, 3, single(12, "a", 1), tombOf(12, "a", 1))
	checkContracted(t, c, 0, single(12, "a", 1), c)
}

// The chapter's second example.
func TestExampleOfShrunk(t *testing.T) {
	l := api.Node{Kind: api.KindL, Hash: 12, Pairs: []api.Pair{{Key: "a", Value: 1}, {Key: "b", Value: 2}}}
	checkShrunk(t, l, "a", tombOf(12, "b", 2))
}
