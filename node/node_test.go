package node_test

import (
	"math"
	"math/bits"
	"reflect"
	"slices"
	"strings"
	"testing"

	"ctrie/api"
	"ctrie/node"
)

// longest is a key of the greatest permitted length; tooLong is one byte longer.
var (
	longest = strings.Repeat("k", api.MaxKey)
	tooLong = longest + "k"
)

// kinds returns the constants of package api.
func kinds() []int {
	return []int{api.KindMark, api.KindI, api.KindC, api.KindS, api.KindT, api.KindL, api.KindFailed, api.KindDesc}
}

// fieldsOf returns the names of the fields that a kind has, from the comments of package api.
func fieldsOf(kind int) []string {
	switch kind {
	case api.KindI:
		return []string{"Gen", "Main"}
	case api.KindC:
		return []string{"Bitmap", "Branches", "Prev"}
	case api.KindS:
		return []string{"Hash", "Key", "Value"}
	case api.KindT:
		return []string{"Hash", "Key", "Value", "Prev"}
	case api.KindL:
		return []string{"Hash", "Pairs", "Prev"}
	case api.KindFailed:
		return []string{"Old"}
	case api.KindDesc:
		return []string{"Old", "Expected", "New", "Status"}
	}
	return nil
}

// sample returns a valid node of each kind, with every field of it set to something else than 0 or empty.
func sample(kind int) api.Node {
	switch kind {
	case api.KindI:
		return api.Node{Kind: kind, Gen: 3, Main: 4}
	case api.KindC:
		return api.Node{Kind: kind, Bitmap: 1<<63 | 5, Branches: []api.Ref{8, 9, 8}, Prev: 6}
	case api.KindS:
		return api.Node{Kind: kind, Hash: 5, Key: "key", Value: 7}
	case api.KindT:
		return api.Node{Kind: kind, Hash: 5, Key: "key", Value: 7, Prev: 2}
	case api.KindL:
		return api.Node{Kind: kind, Hash: 6, Pairs: []api.Pair{{Key: "a", Value: 1}, {Key: "b", Value: 2}, {Key: "c", Value: 3}}, Prev: 8}
	case api.KindFailed:
		return api.Node{Kind: kind, Old: 9}
	case api.KindDesc:
		return api.Node{Kind: kind, Old: 3, Expected: 4, New: 5, Status: 6}
	}
	return api.Node{Kind: kind}
}

// full returns a node of a kind that has no field which is 0 or empty; it is valid for no kind.
func full(kind int) api.Node {
	return api.Node{
		Kind: kind, Gen: 2, Main: 3, Bitmap: 5, Branches: []api.Ref{6, 7}, Hash: 8, Key: "k", Value: 9,
		Pairs: []api.Pair{{Key: "a", Value: 1}, {Key: "b", Value: 2}}, Prev: 10, Old: 11, Expected: 12, New: 13, Status: 14,
	}
}

// nodes returns nodes of all kinds, and of some others, that are valid or not, with lists that are nil, empty or not.
func nodes() []api.Node {
	all := []api.Node{
		{},
		{Branches: []api.Ref{}, Pairs: []api.Pair{}},
		{Kind: api.KindC, Bitmap: 1},
		{Kind: api.KindC, Branches: []api.Ref{0, -1}},
		{Kind: api.KindL, Pairs: []api.Pair{{Key: tooLong}}},
		{Kind: api.KindL, Pairs: []api.Pair{{Key: "b"}, {Key: "a"}, {Key: "b"}}},
		{Kind: math.MinInt, Gen: math.MinInt, Main: math.MinInt, Prev: math.MinInt, Old: math.MinInt, Expected: math.MinInt, New: math.MinInt, Status: math.MinInt},
		{Kind: math.MaxInt, Gen: math.MaxInt, Bitmap: math.MaxUint64, Hash: math.MaxUint64, Value: math.MaxUint64},
	}
	for _, kind := range append(kinds(), -1, 0, 9) {
		all = append(all, sample(kind), full(kind))
	}
	return all
}

// values returns values of the type of a field that are something other than 0 or empty.
func values(field reflect.Value) []reflect.Value {
	var l []any
	switch field.Interface().(type) {
	case int:
		l = []any{1, 2, -1, math.MaxInt, math.MinInt}
	case uint64:
		l = []any{uint64(1), uint64(1) << 31, uint64(math.MaxUint64)}
	case string:
		l = []any{"k", "\x00", " ", tooLong}
	case api.Cell:
		l = []any{api.Cell(1), api.Cell(2), api.Cell(-1), api.Cell(math.MaxInt)}
	case api.Ref:
		l = []any{api.Ref(1), api.Ref(2), api.Ref(-1), api.Ref(math.MaxInt)}
	case []api.Ref:
		l = []any{[]api.Ref{0}, []api.Ref{1}, []api.Ref{1, 2}}
	case []api.Pair:
		l = []any{[]api.Pair{{}}, []api.Pair{{Key: "a"}, {Key: "b"}}}
	}
	var made []reflect.Value
	for _, v := range l {
		made = append(made, reflect.ValueOf(v))
	}
	return made
}

// changed returns the nodes that differ from n in one field, except its kind, and are there something other than 0 or
// empty, each with the name of the field.
func changed(t *testing.T, n api.Node) (nodes []api.Node, fields []string) {
	t.Helper()
	kind := reflect.TypeFor[api.Node]()
	for i := range kind.NumField() {
		name := kind.Field(i).Name
		if name == "Kind" {
			continue
		}
		l := values(reflect.ValueOf(n).Field(i))
		if len(l) == 0 {
			t.Fatalf("there are no values for field %s", name)
		}
		for _, v := range l {
			m := n
			if reflect.DeepEqual(reflect.ValueOf(n).Field(i).Interface(), v.Interface()) {
				continue
			}
			reflect.ValueOf(&m).Elem().Field(i).Set(v)
			nodes = append(nodes, m)
			fields = append(fields, name)
		}
	}
	return nodes, fields
}

// checkValid reports an error if Valid of a node is not as wanted.
func checkValid(t *testing.T, n api.Node, want bool) {
	t.Helper()
	if got := node.Valid(n); got != want {
		t.Errorf("Valid of %#v is %v, want %v", n, got, want)
	}
}

// P4.1: a node of each kind with all its fields set, and one with its lists empty instead of nil.
func TestValidOfKinds(t *testing.T) {
	for _, kind := range kinds() {
		n := sample(kind)
		checkValid(t, n, true)
		if kind != api.KindC {
			n.Branches = []api.Ref{}
		}
		if kind != api.KindL {
			n.Pairs = []api.Pair{}
		}
		checkValid(t, n, true)
	}
}

// P4.1: no other kind is valid, with no fields, with those of any kind, and with all of them.
func TestValidOfOtherKinds(t *testing.T) {
	for _, other := range []int{math.MinInt, -1, 0, 9, 10, 257, math.MaxInt} {
		checkValid(t, full(other), false)
		for _, kind := range kinds() {
			n := sample(kind)
			n.Kind = other
			checkValid(t, n, false)
		}
	}
}

// P4.1: for every kind, a node with any one of the fields that the kind does not have.
func TestValidWithFieldOfOtherKind(t *testing.T) {
	for _, kind := range kinds() {
		own := fieldsOf(kind)
		other, fields := changed(t, sample(kind))
		count := 0
		for i, n := range other {
			if !slices.Contains(own, fields[i]) {
				checkValid(t, n, false)
				count++
			}
		}
		if count < 13-len(own) {
			t.Errorf("there are only %d nodes of kind %d with fields that it does not have", count, kind)
		}
		checkValid(t, full(kind), false)
	}
}

// P4.1: cells have any value from 0 on.
func TestValidCells(t *testing.T) {
	for _, kind := range kinds() {
		for value, want := range map[api.Cell]bool{0: true, 1: true, math.MaxInt: true, -1: false, math.MinInt: false} {
			for _, field := range fieldsOf(kind) {
				n := sample(kind)
				switch field {
				case "Main":
					n.Main = value
				case "Prev":
					n.Prev = value
				case "Status":
					n.Status = value
				default:
					continue
				}
				checkValid(t, n, want)
			}
		}
	}
}

// P4.1: the generation of an I-node is at least 1; its cell does not matter.
func TestValidI(t *testing.T) {
	for gen, want := range map[int]bool{math.MinInt: false, -1: false, 0: false, 1: true, 2: true, math.MaxInt: true} {
		checkValid(t, api.Node{Kind: api.KindI, Gen: gen}, want)
		checkValid(t, api.Node{Kind: api.KindI, Gen: gen, Main: 1}, want)
	}
}

// P4.1: a C-node has one branch for each element of its bitmap; the chapter's first example.
func TestValidC(t *testing.T) {
	refs := make([]api.Ref, 66)
	for i := range refs {
		refs[i] = api.Ref(1 + i%3)
	}
	for _, bitmap := range []uint64{0, 1, 2, 3, 5, 1 << 31, 1 << 32, 1 << 63, 1<<63 | 1, 0x5555555555555555, math.MaxUint32, math.MaxUint64 - 1, math.MaxUint64} {
		for n := range refs {
			checkValid(t, api.Node{Kind: api.KindC, Bitmap: bitmap, Branches: refs[:n]}, n == bits.OnesCount64(bitmap))
		}
	}
	checkValid(t, api.Node{Kind: api.KindC, Bitmap: 5, Branches: []api.Ref{8, 9}}, true)
	checkValid(t, api.Node{Kind: api.KindC, Bitmap: 5, Branches: []api.Ref{8}}, false)
	checkValid(t, api.Node{Kind: api.KindC, Bitmap: 5}, false)
	checkValid(t, api.Node{Kind: api.KindC, Branches: []api.Ref{}}, true)
}

// P4.1: a branch that is no node, at each place.
func TestValidBranches(t *testing.T) {
	for _, bitmap := range []uint64{1, 5, 1<<63 | 6, math.MaxUint64} {
		for value, want := range map[api.Ref]bool{math.MinInt: false, -1: false, 0: false, 1: true, 2: true, math.MaxInt: true} {
			for i := range bits.OnesCount64(bitmap) {
				l := slices.Repeat([]api.Ref{4}, bits.OnesCount64(bitmap))
				l[i] = value
				checkValid(t, api.Node{Kind: api.KindC, Bitmap: bitmap, Branches: l, Prev: 1}, want)
			}
		}
	}
}

// P4.1: keys of singles and tombs have at most MaxKey bytes; bytes count, not characters. Hash values and values are any.
func TestValidKeys(t *testing.T) {
	for key, want := range map[string]bool{
		"": true, "k": true, "\x00\xff": true, longest[1:]: true, longest: true, tooLong: false, tooLong + tooLong: false,
		strings.Repeat("é", 32): true, strings.Repeat("é", 33): false, strings.Repeat("\x00", 65): false,
	} {
		for _, number := range []uint64{0, 1, math.MaxUint64} {
			checkValid(t, api.Node{Kind: api.KindS, Hash: number, Key: key, Value: ^number}, want)
			checkValid(t, api.Node{Kind: api.KindT, Hash: number, Key: key, Value: ^number}, want)
			checkValid(t, api.Node{Kind: api.KindT, Hash: number, Key: key, Value: ^number, Prev: 1}, want)
			checkValid(t, api.Node{Kind: api.KindT, Hash: number, Key: key, Value: ^number, Prev: -1}, false)
		}
	}
}

// P4.1: a collision list has at least two pairs, in strictly ascending order, with keys of at most MaxKey bytes; the
// chapter's second example.
func TestValidL(t *testing.T) {
	below := strings.Repeat("a", api.MaxKey+1)
	cases := []struct {
		keys []string
		want bool
	}{
		{nil, false},
		{[]string{""}, false},
		{[]string{"a"}, false},
		{[]string{tooLong}, false},
		{[]string{"a", "b"}, true},
		{[]string{"", "\x00"}, true},
		{[]string{"a", "a\x00", "aa", "b", "\xff"}, true},
		{[]string{"a", "a"}, false},
		{[]string{"", ""}, false},
		{[]string{"b", "a"}, false},
		{[]string{"a", "b", "b"}, false},
		{[]string{"a", "c", "b"}, false},
		{[]string{"b", "a", "c"}, false},
		{[]string{"a", longest}, true},
		{[]string{longest, "l"}, true},
		{[]string{"a", tooLong}, false},
		{[]string{tooLong, "l"}, false},
		{[]string{longest, tooLong}, false},
		{[]string{"a", tooLong, "l"}, false},
		{[]string{below, "b"}, false},
		{[]string{"", below}, false},
	}
	for _, c := range cases {
		var l []api.Pair
		for i, k := range c.keys {
			l = append(l, api.Pair{Key: k, Value: uint64(i)})
		}
		for _, hash := range []uint64{0, 1, math.MaxUint64} {
			checkValid(t, api.Node{Kind: api.KindL, Hash: hash, Pairs: l, Prev: api.Cell(hash & 1)}, c.want)
		}
	}
	checkValid(t, api.Node{Kind: api.KindL, Pairs: []api.Pair{}}, false)
}

// P4.1: the Refs of failed markers and descriptors are at least 1, each of them.
func TestValidRefs(t *testing.T) {
	for value, want := range map[api.Ref]bool{math.MinInt: false, -1: false, 0: false, 1: true, 2: true, math.MaxInt: true} {
		checkValid(t, api.Node{Kind: api.KindFailed, Old: value}, want)
		checkValid(t, api.Node{Kind: api.KindDesc, Old: value, Expected: 1, New: 1}, want)
		checkValid(t, api.Node{Kind: api.KindDesc, Old: 1, Expected: value, New: 1}, want)
		checkValid(t, api.Node{Kind: api.KindDesc, Old: 1, Expected: 1, New: value}, want)
		checkValid(t, api.Node{Kind: api.KindDesc, Old: value, Expected: value, New: value, Status: 1}, want)
	}
	checkValid(t, api.Node{Kind: api.KindFailed}, false)
	checkValid(t, api.Node{Kind: api.KindDesc}, false)
}

// checkEqual reports an error if Equal of two nodes, in both orders, is not as wanted.
func checkEqual(t *testing.T, a, b api.Node, want bool) {
	t.Helper()
	if node.Equal(a, b) != want || node.Equal(b, a) != want {
		t.Errorf("Equal of %#v and %#v is %v, and %v in the other order, want %v", a, b, node.Equal(a, b), node.Equal(b, a), want)
	}
}

// P4.1: nodes that differ in exactly one field, whatever their kind, are not equal.
func TestEqualButOneField(t *testing.T) {
	for _, n := range nodes() {
		checkEqual(t, n, n, true)
		other, _ := changed(t, n)
		for _, m := range other {
			checkEqual(t, n, m, false)
		}
		m := n
		m.Kind++
		checkEqual(t, n, m, false)
	}
}

// P4.1: lists are equal if they have the same length and equal elements; a nil list equals an empty one (R6).
func TestEqualLists(t *testing.T) {
	for _, kind := range []int{0, api.KindMark, api.KindC, api.KindL} {
		refs := [][]api.Ref{nil, {1}, {2}, {0}, {1, 2}, {2, 1}, {1, 3}, {3, 2}, {1, 2, 0}, {1, 2, 3}, {1, 9, 3}, {1, 2, 9}}
		for i, l := range refs {
			for j, m := range refs {
				checkEqual(t, api.Node{Kind: kind, Branches: l}, api.Node{Kind: kind, Branches: slices.Clone(m)}, i == j)
			}
		}
		lists := [][]api.Pair{
			nil, {{}}, {{Key: "a"}}, {{Value: 1}}, {{Key: "a", Value: 1}}, {{Key: "a"}, {Key: "b"}}, {{Key: "b"}, {Key: "a"}},
			{{Key: "a"}, {Key: "c"}}, {{Key: "a"}, {Key: "b", Value: 1}}, {{Key: "a", Value: 1}, {Key: "b"}}, {{Key: "a"}, {Key: "b"}, {}},
		}
		for i, l := range lists {
			for j, m := range lists {
				checkEqual(t, api.Node{Kind: kind, Pairs: l}, api.Node{Kind: kind, Pairs: slices.Clone(m)}, i == j)
			}
		}
		n := api.Node{Kind: kind}
		checkEqual(t, n, api.Node{Kind: kind, Branches: []api.Ref{}}, true)
		checkEqual(t, n, api.Node{Kind: kind, Pairs: []api.Pair{}}, true)
		checkEqual(t, n, api.Node{Kind: kind, Branches: []api.Ref{}, Pairs: []api.Pair{}}, true)
		checkEqual(t, n, api.Node{Kind: kind, Branches: make([]api.Ref, 0, 4), Pairs: make([]api.Pair, 0, 4)}, true)
	}
}

// P4.1: a clone has the fields of its node, valid or not.
func TestClone(t *testing.T) {
	for _, n := range nodes() {
		got := node.Clone(n)
		checkEqual(t, got, n, true)
		if node.Valid(got) != node.Valid(n) {
			t.Errorf("Valid of %#v and of its clone differ", n)
		}
		got.Branches, got.Pairs = n.Branches, n.Pairs
		if !reflect.DeepEqual(got, n) || len(node.Clone(n).Branches) != len(n.Branches) || len(node.Clone(n).Pairs) != len(n.Pairs) {
			t.Errorf("Clone of %#v is %#v", n, node.Clone(n))
		}
	}
}

// checkNode reports an error if a node is not as wanted, or differs from the one of an equal call (R2).
func checkNode(t *testing.T, what string, got, again, want api.Node) {
	t.Helper()
	for _, n := range []*api.Node{&got, &again, &want} {
		if len(n.Branches) == 0 {
			n.Branches = nil
		}
		if len(n.Pairs) == 0 {
			n.Pairs = nil
		}
	}
	if !reflect.DeepEqual(got, want) || !reflect.DeepEqual(again, want) {
		t.Errorf("%s returns %#v and again %#v, want %#v", what, got, again, want)
	}
}

// P4.2: I-nodes with permitted generations and with others.
func TestInner(t *testing.T) {
	for _, gen := range []int{math.MinInt, -1, 0, 1, 2, 3, math.MaxInt} {
		n := node.Inner(gen)
		checkNode(t, "Inner", n, node.Inner(gen), api.Node{Kind: api.KindI, Gen: gen})
		checkValid(t, n, gen >= 1)
	}
}

// P4.2: the C-node without branches.
func TestEmpty(t *testing.T) {
	checkNode(t, "Empty", node.Empty(), node.Empty(), api.Node{Kind: api.KindC})
	checkValid(t, node.Empty(), true)
}

// P4.2: singles and tombs with keys that are permitted and with longer ones.
func TestSingleAndTomb(t *testing.T) {
	for _, key := range []string{"", "k", "\x00", "é", "\xff", longest, tooLong, strings.Repeat("k", 1000)} {
		for _, hash := range []uint64{0, 1, 5, 1 << 63, math.MaxUint64} {
			for _, value := range []uint64{0, 1, 7, math.MaxUint64} {
				s := node.Single(hash, key, value)
				checkNode(t, "Single", s, node.Single(hash, key, value), api.Node{Kind: api.KindS, Hash: hash, Key: key, Value: value})
				checkValid(t, s, len(key) <= api.MaxKey)
				tomb := node.Tomb(hash, key, value)
				checkNode(t, "Tomb", tomb, node.Tomb(hash, key, value), api.Node{Kind: api.KindT, Hash: hash, Key: key, Value: value})
				checkValid(t, tomb, len(key) <= api.MaxKey)
				checkEqual(t, s, tomb, false)
			}
		}
	}
}

// pairLists returns lists of pairs, permitted ones and others: too short ones, ones in a wrong order, and with keys
// that are too long.
func pairLists() [][]api.Pair {
	return [][]api.Pair{
		{{Key: "a", Value: 1}, {Key: "b", Value: 2}},
		{{Key: "", Value: 0}, {Key: "a", Value: math.MaxUint64}, {Key: longest, Value: 3}},
		nil,
		{},
		{{}},
		{{Key: "a", Value: 1}},
		{{Key: "b", Value: 1}, {Key: "a", Value: 2}},
		{{Key: "a", Value: 1}, {Key: "a", Value: 2}, {Key: "a", Value: 1}},
		{{Key: "a", Value: 1}, {Key: tooLong, Value: 2}},
	}
}

// P4.2: collision lists, of lists that are permitted and of others.
func TestList(t *testing.T) {
	for i, l := range pairLists() {
		for _, hash := range []uint64{0, 6, math.MaxUint64} {
			n := node.List(hash, l)
			checkNode(t, "List", n, node.List(hash, l), api.Node{Kind: api.KindL, Hash: hash, Pairs: slices.Clone(l)})
			checkValid(t, n, i < 2)
		}
	}
}

// P4.2: failed markers and descriptors, with Refs that are permitted and with others.
func TestFailedAndDesc(t *testing.T) {
	refs := []api.Ref{math.MinInt, -1, 0, 1, 2, 3, math.MaxInt}
	for _, old := range refs {
		n := node.Failed(old)
		checkNode(t, "Failed", n, node.Failed(old), api.Node{Kind: api.KindFailed, Old: old})
		checkValid(t, n, old >= 1)
		for _, expected := range refs {
			for _, by := range refs {
				n := node.Desc(old, expected, by)
				checkNode(t, "Desc", n, node.Desc(old, expected, by), api.Node{Kind: api.KindDesc, Old: old, Expected: expected, New: by})
				checkValid(t, n, old >= 1 && expected >= 1 && by >= 1)
			}
		}
	}
}

// P4.3: the kind alone decides, also for nodes that are not valid.
func TestMainOfKinds(t *testing.T) {
	for _, kind := range append(kinds(), math.MinInt, -api.KindC, -1, 0, 9, 10, 256+api.KindC, math.MaxInt) {
		want := kind == api.KindC || kind == api.KindT || kind == api.KindL
		for _, n := range []api.Node{{Kind: kind}, sample(kind), full(kind)} {
			if got := node.Main(n); got != want {
				t.Errorf("Main of %#v is %v, want %v", n, got, want)
			}
		}
		for _, other := range kinds() {
			n := sample(other)
			n.Kind = kind
			if got := node.Main(n); got != want {
				t.Errorf("Main of %#v is %v, want %v", n, got, want)
			}
		}
	}
}

// P4.2 and P4.3: Main of what the constructors return.
func TestMainOfConstructors(t *testing.T) {
	for _, n := range []api.Node{node.Empty(), node.Tomb(1, "k", 2), node.List(1, nil)} {
		if !node.Main(n) {
			t.Errorf("%#v is not a main node", n)
		}
	}
	for _, n := range []api.Node{node.Inner(1), node.Single(1, "k", 2), node.Failed(1), node.Desc(1, 2, 3), {Kind: api.KindMark}} {
		if node.Main(n) {
			t.Errorf("%#v is a main node", n)
		}
	}
}

// within returns a list in the middle of a longer one, so that it has memory behind its last element, and the longer one.
func within[T any](l []T, outside T) (part, whole []T) {
	whole = append([]T{outside}, l...)
	whole = slices.Clip(append(whole, outside, outside, outside))
	return whole[1 : 1+len(l)], whole
}

// lists are the lists of a node, or those around them.
type lists struct {
	refs  []api.Ref
	pairs []api.Pair
}

// copied returns the same lists in new memory.
func (l lists) copied() lists {
	return lists{slices.Clone(l.refs), slices.Clone(l.pairs)}
}

// equals tells whether the lists have the same elements.
func (l lists) equals(m lists) bool {
	return slices.Equal(l.refs, m.refs) && slices.Equal(l.pairs, m.pairs)
}

// overwrite changes every element.
func (l lists) overwrite() {
	for i := range l.refs {
		l.refs[i] += 1000
	}
	for i, p := range l.pairs {
		l.pairs[i] = api.Pair{Key: p.Key + ", changed", Value: p.Value + 1000}
	}
}

// upToCapacity returns the lists of a node with all the memory behind their last elements.
func upToCapacity(n api.Node) lists {
	return lists{n.Branches[:cap(n.Branches)], n.Pairs[:cap(n.Pairs)]}
}

// R3: no call changes a list of its argument, nor the memory around it.
func TestArgumentsUnchanged(t *testing.T) {
	for _, n := range nodes() {
		var whole lists
		n.Branches, whole.refs = within(n.Branches, 77)
		n.Pairs, whole.pairs = within(n.Pairs, api.Pair{Key: "outside", Value: 77})
		before := whole.copied()
		node.Valid(n)
		node.Equal(n, n)
		node.Clone(n)
		node.Main(n)
		node.List(1, n.Pairs)
		if !whole.equals(before) {
			t.Errorf("calls with %#v changed its lists, or what is around them, to %#v", n, whole)
		}
	}
}

// R3: Clone and List return new memory: writing over all of one result, up to its capacity, or over the argument and
// what is around it, changes nothing of the others.
func TestResultsShareNothing(t *testing.T) {
	for _, n := range nodes() {
		var whole lists
		n.Branches, whole.refs = within(n.Branches, 77)
		n.Pairs, whole.pairs = within(n.Pairs, api.Pair{Key: "outside", Value: 77})
		all := []lists{whole}
		for _, m := range []api.Node{node.Clone(n), node.Clone(n), node.Clone(node.Clone(n)), node.List(1, n.Pairs), node.List(1, n.Pairs)} {
			all = append(all, upToCapacity(m))
		}
		for i := range all {
			var before []lists
			for _, l := range all {
				before = append(before, l.copied())
			}
			all[i].overwrite()
			for j := range all {
				if j != i && !all[j].equals(before[j]) {
					t.Errorf("of the argument and the results for %#v, writing over number %d changed number %d", n, i, j)
				}
			}
		}
	}
}

// R3: a list that is written over after the call leaves the node of List as it was.
func TestListKeepsItsPairs(t *testing.T) {
	l := []api.Pair{{Key: "a", Value: 1}, {Key: "b", Value: 2}}
	n := node.List(6, l)
	l[0], l[1] = api.Pair{Key: "x", Value: 8}, api.Pair{Key: "y", Value: 9}
	want := []api.Pair{{Key: "a", Value: 1}, {Key: "b", Value: 2}}
	if !slices.Equal(n.Pairs, want) {
		t.Errorf("the pairs are %#v, want %#v", n.Pairs, want)
	}
}
