package pairs_test

import (
	"maps"
	"math"
	"slices"
	"strconv"
	"strings"
	"testing"

	"ctrie/api"
	"ctrie/pairs"
)

type list = []api.Pair

// sampleKeys returns keys in strictly ascending order, among them the empty one, keys that begin with another one,
// a zero byte, bytes that are no text in UTF-8, and keys of the greatest length and above it.
func sampleKeys() []string {
	long := strings.Repeat("k", api.MaxKey)
	return []string{"", "\x00", "B", "a", "a\x00", "aa", "ab", "b", "k", long, long + "k", "z", "\x7f", "\x80", "é", "\xff"}
}

// lists returns every list with a number of pairs up to a limit whose keys are among some keys. The values of the
// pairs of one list differ, and none is 0.
func lists(keys []string, limit int) []list {
	all := []list{{}}
	from := 0
	for n := range limit {
		to := len(all)
		for _, l := range all[from:to] {
			for _, k := range keys {
				all = append(all, append(slices.Clone(l), api.Pair{Key: k, Value: uint64(n + 1)}))
			}
		}
		from = to
	}
	return all
}

// ascending tells whether every pair of a list has a key that is greater than all the ones before it.
func ascending(l list) bool {
	for i := range l {
		for j := range i {
			if !(l[j].Key < l[i].Key) {
				return false
			}
		}
	}
	return true
}

// byMap returns the pairs of a map, the keys sorted.
func byMap(m map[string]uint64) list {
	var l list
	for _, k := range slices.Sorted(maps.Keys(m)) {
		l = append(l, api.Pair{Key: k, Value: m[k]})
	}
	return l
}

// toMap returns the last value of each key.
func toMap(l list) map[string]uint64 {
	m := map[string]uint64{}
	for _, p := range l {
		m[p.Key] = p.Value
	}
	return m
}

// invalid returns lists that are not valid: with two equal keys, or with keys in descending order, at each place.
func invalid() []list {
	return []list{
		{{Key: "a", Value: 1}, {Key: "a", Value: 2}},
		{{Key: "a", Value: 1}, {Key: "a", Value: 1}},
		{{Key: "", Value: 1}, {Key: "", Value: 2}},
		{{Key: "b", Value: 1}, {Key: "a", Value: 2}},
		{{Key: "a", Value: 1}, {Key: "", Value: 2}},
		{{Key: "ab", Value: 1}, {Key: "a", Value: 2}},
		{{Key: "a", Value: 1}, {Key: "B", Value: 2}},
		{{Key: "\xff", Value: 1}, {Key: "z", Value: 2}},
		{{Key: "a", Value: 1}, {Key: "a", Value: 2}, {Key: "b", Value: 3}, {Key: "c", Value: 4}},
		{{Key: "a", Value: 1}, {Key: "b", Value: 2}, {Key: "b", Value: 3}, {Key: "c", Value: 4}},
		{{Key: "a", Value: 1}, {Key: "b", Value: 2}, {Key: "c", Value: 3}, {Key: "c", Value: 4}},
		{{Key: "b", Value: 1}, {Key: "a", Value: 2}, {Key: "c", Value: 3}, {Key: "d", Value: 4}},
		{{Key: "a", Value: 1}, {Key: "c", Value: 2}, {Key: "b", Value: 3}, {Key: "d", Value: 4}},
		{{Key: "a", Value: 1}, {Key: "b", Value: 2}, {Key: "d", Value: 3}, {Key: "c", Value: 4}},
		{{Key: "c", Value: 1}, {Key: "d", Value: 2}, {Key: "a", Value: 3}, {Key: "b", Value: 4}},
		{{Key: "d", Value: 1}, {Key: "c", Value: 2}, {Key: "b", Value: 3}, {Key: "a", Value: 4}},
	}
}

// P3.1: a list without keys or with one has nothing that could be in a wrong order; the order is that of the bytes.
func TestValidValues(t *testing.T) {
	for _, l := range []list{
		nil,
		{},
		{{Key: ""}},
		{{Key: "a", Value: 1}},
		{{Key: "", Value: 9}, {Key: "\x00", Value: 8}},
		{{Key: "a", Value: 2}, {Key: "b", Value: 1}},
		{{Key: "B"}, {Key: "a"}},
		{{Key: "a"}, {Key: "a\x00"}, {Key: "aa"}, {Key: "ab"}, {Key: "b"}},
		{{Key: "10"}, {Key: "9"}},
		{{Key: "z"}, {Key: "\x80"}, {Key: "\xff"}},
	} {
		if !pairs.Valid(l) {
			t.Errorf("%#v is not valid", l)
		}
	}
	for _, l := range invalid() {
		if pairs.Valid(l) {
			t.Errorf("%#v is valid", l)
		}
	}
}

// P3.1: every list of up to four pairs.
func TestValidOfAll(t *testing.T) {
	for _, l := range lists([]string{"", "a", "aa", "b", "\xff"}, 4) {
		if got, want := pairs.Valid(l), ascending(l); got != want {
			t.Errorf("Valid of %#v is %v, want %v", l, got, want)
		}
	}
}

// P3.1: keys of the list, and keys below the first one, between two, and above the last one. A value may be 0.
func TestFindValues(t *testing.T) {
	l := list{{Key: "b", Value: 2}, {Key: "d", Value: 0}, {Key: "f", Value: math.MaxUint64}}
	withEmpty := list{{Key: "", Value: 7}, {Key: "b", Value: 2}}
	cases := []struct {
		l     list
		key   string
		value uint64
		found bool
	}{
		{l, "b", 2, true},
		{l, "d", 0, true},
		{l, "f", math.MaxUint64, true},
		{l, "", 0, false},
		{l, "a", 0, false},
		{l, "c", 0, false},
		{l, "e", 0, false},
		{l, "g", 0, false},
		{l, "B", 0, false},
		{l, "bb", 0, false},
		{l, "b\x00", 0, false},
		{l, "\xff", 0, false},
		{withEmpty, "", 7, true},
		{withEmpty, "b", 2, true},
		{withEmpty, "a", 0, false},
		{list{{Key: "a", Value: 5}}, "a", 5, true},
		{list{{Key: "a", Value: 5}}, "", 0, false},
		{list{{Key: "a", Value: 5}}, "b", 0, false},
		{nil, "", 0, false},
		{nil, "a", 0, false},
		{list{}, "", 0, false},
		{list{}, "a", 0, false},
	}
	for _, c := range cases {
		value, found := pairs.Find(c.l, c.key)
		if value != c.value || found != c.found {
			t.Errorf("Find of %q in %#v is %d, %v, want %d, %v", c.key, c.l, value, found, c.value, c.found)
		}
	}
}

// The chapter's definitions: in a list that is not valid, nothing is found, and Put and Drop return no pairs of it.
func TestNotValid(t *testing.T) {
	for _, l := range invalid() {
		for _, key := range []string{"", "B", "a", "aa", "ab", "b", "c", "d", "x", "z", "\xff"} {
			if value, found := pairs.Find(l, key); value != 0 || found {
				t.Errorf("Find of %q in %#v is %d, %v, want 0, false", key, l, value, found)
			}
			if got := pairs.Put(l, key, 9); len(got) != 0 {
				t.Errorf("Put of %q into %#v is %#v, want no pairs", key, l, got)
			}
			if got := pairs.Drop(l, key); len(got) != 0 {
				t.Errorf("Drop of %q from %#v is %#v, want no pairs", key, l, got)
			}
		}
	}
}

// P3.2: the chapter's first example, keys at each place of the list and between, and the empty key.
func TestPutValues(t *testing.T) {
	l := list{{Key: "a", Value: 1}, {Key: "c", Value: 3}}
	cases := []struct {
		l     list
		key   string
		value uint64
		want  list
	}{
		{l, "b", 2, list{{Key: "a", Value: 1}, {Key: "b", Value: 2}, {Key: "c", Value: 3}}},
		{l, "a", 9, list{{Key: "a", Value: 9}, {Key: "c", Value: 3}}},
		{l, "a", 1, l},
		{l, "c", 0, list{{Key: "a", Value: 1}, {Key: "c", Value: 0}}},
		{l, "c", math.MaxUint64, list{{Key: "a", Value: 1}, {Key: "c", Value: math.MaxUint64}}},
		{l, "", 0, list{{Key: "", Value: 0}, {Key: "a", Value: 1}, {Key: "c", Value: 3}}},
		{l, "B", 2, list{{Key: "B", Value: 2}, {Key: "a", Value: 1}, {Key: "c", Value: 3}}},
		{l, "aa", 2, list{{Key: "a", Value: 1}, {Key: "aa", Value: 2}, {Key: "c", Value: 3}}},
		{l, "d", 4, list{{Key: "a", Value: 1}, {Key: "c", Value: 3}, {Key: "d", Value: 4}}},
		{list{{Key: "", Value: 7}}, "", 8, list{{Key: "", Value: 8}}},
		{nil, "a", 1, list{{Key: "a", Value: 1}}},
		{list{}, "", 1, list{{Key: "", Value: 1}}},
	}
	for _, c := range cases {
		if got := pairs.Put(c.l, c.key, c.value); !slices.Equal(got, c.want) {
			t.Errorf("Put of %q, %d into %#v is %#v, want %#v", c.key, c.value, c.l, got, c.want)
		}
	}
}

// P3.2: keys at each place of the list, the only one, the empty one, and keys that the list does not have.
func TestDropValues(t *testing.T) {
	l := list{{Key: "", Value: 7}, {Key: "b", Value: 2}, {Key: "d", Value: 4}}
	cases := []struct {
		l    list
		key  string
		want list
	}{
		{l, "", list{{Key: "b", Value: 2}, {Key: "d", Value: 4}}},
		{l, "b", list{{Key: "", Value: 7}, {Key: "d", Value: 4}}},
		{l, "d", list{{Key: "", Value: 7}, {Key: "b", Value: 2}}},
		{l[1:], "", l[1:]},
		{l[1:], "a", l[1:]},
		{l, "a", l},
		{l, "c", l},
		{l, "e", l},
		{l, "bb", l},
		{list{{Key: "a", Value: 1}}, "a", nil},
		{list{{Key: "a", Value: 1}}, "b", list{{Key: "a", Value: 1}}},
		{nil, "a", nil},
		{nil, "", nil},
		{list{}, "a", nil},
	}
	for _, c := range cases {
		if got := pairs.Drop(c.l, c.key); !slices.Equal(got, c.want) {
			t.Errorf("Drop of %q from %#v is %#v, want %#v", c.key, c.l, got, c.want)
		}
	}
}

// P3.1 and P3.2: every list of the sample keys with up to ten pairs that follow one another, and every second one of
// them, with every key, compared with a map.
func TestFindPutAndDropOfAll(t *testing.T) {
	keys := sampleKeys()
	for from := range keys {
		for to := from; to <= len(keys) && to <= from+10; to++ {
			for step := 1; step <= 2; step++ {
				m := map[string]uint64{}
				for i := from; i < to; i += step {
					m[keys[i]] = uint64(100 + i)
				}
				for i, key := range keys {
					compareWithMap(t, m, key, uint64(200+i))
				}
			}
		}
	}
}

// compareWithMap reports an error where Find, Put and Drop of a key differ from a map.
func compareWithMap(t *testing.T, m map[string]uint64, key string, value uint64) {
	t.Helper()
	l := byMap(m)
	wantValue, wantFound := m[key]
	if value, found := pairs.Find(l, key); value != wantValue || found != wantFound {
		t.Errorf("Find of %q in %#v is %d, %v, want %d, %v", key, l, value, found, wantValue, wantFound)
	}
	with := maps.Clone(m)
	with[key] = value
	if got, want := pairs.Put(l, key, value), byMap(with); !slices.Equal(got, want) {
		t.Errorf("Put of %q into %#v is %#v, want %#v", key, l, got, want)
	}
	without := maps.Clone(m)
	delete(without, key)
	if got, want := pairs.Drop(l, key), byMap(without); !slices.Equal(got, want) {
		t.Errorf("Drop of %q from %#v is %#v, want %#v", key, l, got, want)
	}
}

// P3.3: the chapter's second example, keys that occur several times, next to one another or not, and the empty key.
func TestOfValues(t *testing.T) {
	cases := []struct{ l, want list }{
		{list{{Key: "b", Value: 1}, {Key: "a", Value: 2}, {Key: "b", Value: 3}}, list{{Key: "a", Value: 2}, {Key: "b", Value: 3}}},
		{nil, nil},
		{list{}, nil},
		{list{{Key: "a", Value: 1}}, list{{Key: "a", Value: 1}}},
		{list{{Key: "", Value: 1}, {Key: "", Value: 0}}, list{{Key: "", Value: 0}}},
		{list{{Key: "a", Value: 3}, {Key: "a", Value: 1}, {Key: "a", Value: 2}}, list{{Key: "a", Value: 2}}},
		{list{{Key: "b", Value: 1}, {Key: "b", Value: 2}, {Key: "a", Value: 4}, {Key: "a", Value: 3}}, list{{Key: "a", Value: 3}, {Key: "b", Value: 2}}},
		{list{{Key: "a", Value: 1}, {Key: "b", Value: 2}, {Key: "a", Value: 1}}, list{{Key: "a", Value: 1}, {Key: "b", Value: 2}}},
		{list{{Key: "c", Value: 1}, {Key: "b", Value: 2}, {Key: "a", Value: 3}}, list{{Key: "a", Value: 3}, {Key: "b", Value: 2}, {Key: "c", Value: 1}}},
		{list{{Key: "\xff", Value: 1}, {Key: "a", Value: 2}, {Key: "B", Value: 3}, {Key: "", Value: 4}, {Key: "a\x00", Value: 5}}, list{{Key: "", Value: 4}, {Key: "B", Value: 3}, {Key: "a", Value: 2}, {Key: "a\x00", Value: 5}, {Key: "\xff", Value: 1}}},
	}
	for _, c := range cases {
		if got := pairs.Of(c.l); !slices.Equal(got, c.want) {
			t.Errorf("Of %#v is %#v, want %#v", c.l, got, c.want)
		}
	}
}

// P3.3: every list of up to five pairs, compared with a map.
func TestOfAll(t *testing.T) {
	for _, l := range lists([]string{"b", "", "\xff", "a"}, 5) {
		if got, want := pairs.Of(l), byMap(toMap(l)); !slices.Equal(got, want) {
			t.Errorf("Of %#v is %#v, want %#v", l, got, want)
		}
	}
}

// P3.3: long lists, in which every key occurs many times.
func TestOfLong(t *testing.T) {
	for _, n := range []int{13, 50, 400, 3000} {
		for _, different := range []int{1, 2, 7, 40} {
			var l list
			for i := range n {
				l = append(l, api.Pair{Key: strconv.Itoa(i * i % different), Value: uint64(i)})
			}
			if got, want := pairs.Of(l), byMap(toMap(l)); !slices.Equal(got, want) {
				t.Errorf("Of %d pairs is %#v, want %#v", n, got, want)
			}
		}
	}
}

// A consequence: Of a valid list is the list.
func TestOfValid(t *testing.T) {
	keys := sampleKeys()
	for from := range keys {
		for to := from; to <= len(keys); to++ {
			var l list
			for i, k := range keys[from:to] {
				l = append(l, api.Pair{Key: k, Value: uint64(i * 7 % 5)})
			}
			if got := pairs.Of(l); !slices.Equal(got, l) {
				t.Errorf("Of %#v is %#v", l, got)
			}
		}
	}
}

// A consequence: Puts of different keys may be exchanged.
func TestPutsExchanged(t *testing.T) {
	l := list{{Key: "a", Value: 1}, {Key: "b", Value: 2}, {Key: "z", Value: 3}}
	for _, k := range sampleKeys() {
		for _, j := range sampleKeys() {
			if k == j {
				continue
			}
			one := pairs.Put(pairs.Put(l, k, 8), j, 9)
			other := pairs.Put(pairs.Put(l, j, 9), k, 8)
			if !slices.Equal(one, other) {
				t.Errorf("Puts of %q and %q return %#v in one order and %#v in the other", k, j, one, other)
			}
		}
	}
}

// R1, R2: the results of Put, Drop and Of are valid lists, also where a value is 0, and equal calls return equal ones.
func TestResultsAreValid(t *testing.T) {
	for _, l := range append(lists([]string{"", "a", "b"}, 3), nil) {
		for _, key := range []string{"", "a", "aa", "c"} {
			for _, got := range [][2]list{
				{pairs.Put(l, key, 0), pairs.Put(l, key, 0)},
				{pairs.Drop(l, key), pairs.Drop(l, key)},
				{pairs.Of(l), pairs.Of(l)},
			} {
				if !pairs.Valid(got[0]) || !slices.Equal(got[0], got[1]) {
					t.Errorf("for %#v and %q, results are %#v and %#v", l, key, got[0], got[1])
				}
			}
		}
	}
}

// filled returns a list in the middle of a longer one, so that it has memory behind its last pair, and the longer one.
func filled(l list) (part, whole list) {
	outside := api.Pair{Key: "outside", Value: 77}
	whole = append(list{outside}, l...)
	whole = slices.Clip(append(whole, outside, outside, outside))
	return whole[1 : 1+len(l)], whole
}

// R3: no call changes its argument, nor the memory behind the argument's last pair.
func TestArgumentsUnchanged(t *testing.T) {
	for _, l := range append(lists([]string{"b", "", "a"}, 4), invalid()...) {
		part, whole := filled(l)
		before := slices.Clone(whole)
		pairs.Valid(part)
		pairs.Of(part)
		for _, key := range []string{"", "a", "aa", "b", "c"} {
			pairs.Find(part, key)
			pairs.Put(part, key, 9)
			pairs.Drop(part, key)
		}
		if !slices.Equal(whole, before) {
			t.Fatalf("calls with %#v and several keys changed it, and what is around it, to %#v", l, whole)
		}
	}
}

// R3: no result shares memory with the argument or with another result: writing over all of the one, up to its
// capacity, changes nothing of the others, up to theirs.
func TestResultsShareNothing(t *testing.T) {
	for _, l := range append(lists([]string{"b", "", "a"}, 4), invalid()...) {
		part, whole := filled(l)
		all := []list{whole, pairs.Of(part), pairs.Of(part)}
		for _, key := range []string{"", "a", "aa", "b", "c", "c"} {
			all = append(all, pairs.Put(part, key, 9), pairs.Drop(part, key))
		}
		for i := range all {
			all[i] = all[i][:cap(all[i])]
		}
		for i := range all {
			before := copies(all)
			overwrite(all[i])
			for j := range all {
				if j != i && !slices.Equal(all[j], before[j]) {
					t.Fatalf("of the argument and the results for %#v, writing over number %d changed number %d", l, i, j)
				}
			}
		}
	}
}

// copies returns new memory with the pairs of each list.
func copies(all []list) []list {
	var made []list
	for _, l := range all {
		made = append(made, slices.Clone(l))
	}
	return made
}

// overwrite changes every pair of a list.
func overwrite(l list) {
	for i, p := range l {
		l[i] = api.Pair{Key: p.Key + ", changed", Value: p.Value + 1}
	}
}
