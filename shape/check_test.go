package shape_test

import (
	"math"
	"strings"
	"testing"

	"ctrie/api"
	"ctrie/arena"
	"ctrie/keyhash"
	"ctrie/node"
)

// Example 1: the empty trie.
func TestEmptyTrie(t *testing.T) {
	a := arena.New()
	c := a.Alloc(node.Empty(), 0)
	x := api.Trie{Root: a.NewCell(a.Alloc(node.Inner(a.NewGen()), c))}
	for _, mask := range masks() {
		checkGood(t, a.State(), x, mask, 0)
	}
}

// Example 2: a single alone below the root, and below an I-node of level 1.
func TestSoleSingle(t *testing.T) {
	b := newBuilder(63)
	x := b.at(b.fan(0, "a"), nil)
	checkGood(t, b.State(), x, 63, 0)
	y := b.at(b.fan(1, "a"), way(b.hash("a"), 1))
	check(t, b.State(), y, 63, api.ErrState)
	checkGood(t, b.State(), x, 63, 0)
}

// P10.1, P10.2: a main node of each kind that may be at a level, alone at the end of a way of I-nodes, at every level.
func TestOneMainNode(t *testing.T) {
	found := map[int]int{}
	for _, mask := range masks() {
		for level := range 12 {
			b := newBuilder(mask)
			good := func(m api.Ref, key string) {
				x := b.at(m, way(b.hash(key), level))
				checkGood(t, b.State(), x, mask, level)
				found[level]++
			}
			for _, count := range []int{2, 3, 9, 64} {
				if keys := keysWith(mask, level, count); keys != nil && level < 11 {
					good(b.fan(level, keys...), keys[0])
				} else if keys != nil {
					good(b.list(keys...), keys[0])
				}
			}
			if level == 0 {
				good(b.fork(nil), "a")
				good(b.fan(0, "a"), "a")
				good(b.fan(0, ""), "")
			} else {
				good(b.tomb("a"), "a")
				good(b.tomb(""), "")
				good(b.tomb(strings.Repeat("k", api.MaxKey)), strings.Repeat("k", api.MaxKey))
			}
		}
	}
	for level := range 12 {
		if found[level] < 30 {
			t.Errorf("there are only %d tries of level %d", found[level], level)
		}
	}
}

// checkKinds reports an error if main nodes of one key or two, whose hash values are equal, do not break condition 1
// alone at the levels where they may not be.
func checkKinds(t *testing.T, mask uint64, keys []string) {
	t.Helper()
	for level := range 12 {
		b := newBuilder(mask)
		down := way(b.hash(keys[0]), level)
		tomb, list := b.at(b.tomb(keys[0]), down), b.at(b.list(keys...), down)
		tombed, listed := api.OK, api.ErrState
		if level == 0 {
			tombed = api.ErrState
		}
		if level == 11 {
			listed = api.OK
		}
		check(t, b.State(), tomb, mask, tombed)
		check(t, b.State(), list, mask, listed)
		checkQuiet(t, b.State(), list, true)
		checkDepth(t, b.State(), tomb, level)
		checkDepth(t, b.State(), list, level)
	}
}

// Condition 1: a tomb at level 0 and a collision list at levels 0 to 10 are not well-formed, at other levels they are.
func TestKindOfLevel(t *testing.T) {
	found := 0
	for _, mask := range masks() {
		for _, count := range []int{2, 5} {
			if keys := keysWith(mask, 11, count); keys != nil {
				checkKinds(t, mask, keys)
				found++
			}
		}
	}
	if found < 12 {
		t.Errorf("there are keys for %d masks only", found)
	}
}

// Condition 1: a C-node at level 11 is not well-formed, whatever its branches are. (There are none that meet the other
// conditions.)
func TestForkAtLastLevel(t *testing.T) {
	for _, mask := range []uint64{0, 63, lows} {
		keys := keysWith(mask, 11, 3)
		for _, branches := range []map[int]string{{}, {0: keys[0]}, {5: keys[0]}, {0: keys[0], 1: keys[1]}, {0: keys[0], 1: keys[1], 63: keys[2]}} {
			b := newBuilder(mask)
			refs := map[int]api.Ref{}
			for i, key := range branches {
				refs[i] = b.single(key)
			}
			x := b.at(b.fork(refs), way(b.hash(keys[0]), 11))
			check(t, b.State(), x, mask, api.ErrState)
			checkQuiet(t, b.State(), x, true)
			checkDepth(t, b.State(), x, 11)
		}
	}
}

// Condition 2: a C-node without branches, and one with a single alone, are well-formed at level 0 only. One with an
// I-node alone is well-formed at every level, as is one with two branches, of which one may be a single.
func TestBranches(t *testing.T) {
	for _, mask := range masks() {
		for level := range 11 {
			b := newBuilder(mask)
			down := way(b.hash("a"), level)
			next := keyhash.Slice(b.hash("a"), level)
			want := api.ErrState
			if level == 0 {
				want = api.OK
			}
			none := b.at(b.fork(nil), down)
			single := b.at(b.fan(level, "a"), down)
			inner := b.at(b.fork(map[int]api.Ref{next: b.inner(usual, b.tomb("a"))}), down)
			check(t, b.State(), none, mask, want)
			check(t, b.State(), single, mask, want)
			check(t, b.State(), inner, mask, api.OK)
			if keys := keysWith(mask, level, 2); keys != nil {
				lower := b.inner(usual, b.tomb(keys[1]))
				both := b.fork(map[int]api.Ref{
					keyhash.Slice(b.hash(keys[0]), level): b.single(keys[0]),
					keyhash.Slice(b.hash(keys[1]), level): lower,
				})
				x := b.at(both, way(b.hash(keys[0]), level))
				checkGood(t, b.State(), x, mask, level+1)
			}
		}
	}
}

// Condition 3: the Hash is not the hash value of the key for the mask, by one bit; but the ways, the indices and the
// prefixes are those of this Hash.
func TestHashOfOtherKey(t *testing.T) {
	for _, mask := range []uint64{0, 63, lows, math.MaxUint64} {
		for bit := range 64 {
			b := newBuilder(mask)
			wrong := b.hash("a") ^ 1<<bit
			index := int(wrong % 64)
			single := b.at(b.fork(map[int]api.Ref{index: b.Alloc(node.Single(wrong, "a", 1), 0)}), nil)
			check(t, b.State(), single, mask, api.ErrState)
			for level := 1; level <= 11; level++ {
				tomb := b.at(b.Alloc(node.Tomb(wrong, "a", 1), 0), way(wrong, level))
				check(t, b.State(), tomb, mask, api.ErrState)
			}
			if keys := keysWith(mask, 11, 3); keys != nil {
				wrong := b.hash(keys[0]) ^ 1<<bit
				list := b.at(b.listWith(wrong, keys...), way(wrong, 11))
				check(t, b.State(), list, mask, api.ErrState)
			}
		}
	}
}

// Condition 3: the same for one of two singles at every level. The bit is one of a slice below those of the prefix.
func TestHashOfOtherSingle(t *testing.T) {
	found := 0
	for _, mask := range []uint64{63 << 6, lows, 3 * lows, math.MaxUint64} {
		for level := range 11 {
			keys := keysWith(mask, level, 2)
			if keys == nil {
				continue
			}
			for bit := 6 * level; bit < 64; bit++ {
				b := newBuilder(mask)
				wrong := b.hash(keys[0]) ^ 1<<bit
				index, other := keyhash.Slice(wrong, level), keyhash.Slice(b.hash(keys[1]), level)
				if index == other {
					continue
				}
				m := b.fork(map[int]api.Ref{index: b.Alloc(node.Single(wrong, keys[0], 1), 0), other: b.single(keys[1])})
				x := b.at(m, way(wrong, level))
				check(t, b.State(), x, mask, api.ErrState)
				found++
			}
		}
	}
	if found < 600 {
		t.Errorf("there are only %d tries", found)
	}
}

// Condition 3: one key of a collision list has another hash value than the others, which is not its Hash: the first
// one, the last one, or one between.
func TestListOfOtherKeys(t *testing.T) {
	keys := keysWith(63, 11, 4)
	before, between, after := "", "kk", "x"
	for _, c := range []struct {
		keys []string
		want api.Errno
	}{
		{keys, api.OK},
		{append([]string{before}, keys...), api.ErrState},
		{append([]string{between}, keys[:2]...), api.ErrState},
		{append([]string{after}, keys...), api.ErrState},
		{[]string{after, keys[0]}, api.ErrState},
		{[]string{before, keys[0]}, api.ErrState},
		{[]string{before, after}, api.ErrState},
	} {
		b := newBuilder(63)
		h := b.hash(keys[0])
		x := b.at(b.listWith(h, c.keys...), way(h, 11))
		check(t, b.State(), x, 63, c.want)
	}
	for _, key := range []string{before, between, after} {
		if keyhash.Hash(key, 63) == keyhash.Hash(keys[0], 63) {
			t.Errorf("the key %q has the same hash value", key)
		}
	}
}

// Condition 3: the key of the Hash is the one for the mask of the call, whatever the state was built for.
func TestMask(t *testing.T) {
	for _, built := range masks() {
		for _, asked := range masks() {
			b := newBuilder(built)
			single := b.at(b.fan(0, "a"), nil)
			tomb := b.at(b.tomb("a"), way(b.hash("a"), 4))
			want := api.ErrState
			if keyhash.Hash("a", asked) == keyhash.Hash("a", built) {
				want = api.OK
			}
			check(t, b.State(), single, asked, want)
			check(t, b.State(), tomb, asked, want)
			// Where there are no keys, there are no hash values.
			empty := b.at(b.fork(nil), nil)
			checkGood(t, b.State(), empty, asked, 0)
		}
	}
}

// strays returns the ways that differ from a way at one level, also by an index that a hash value does not have there.
func strays(right []int) [][]int {
	var l [][]int
	for level, index := range right {
		for _, by := range []int{1, 2, 4, 8, 16, 32, 48, 63} {
			w := append([]int{}, right...)
			w[level] = index ^ by
			l = append(l, w)
		}
	}
	return l
}

// Condition 3: the Hash of a tomb or a collision list has not the prefix of the I-node, because of one level alone.
func TestPrefixOfMainNode(t *testing.T) {
	for _, mask := range []uint64{0, 63, lows, 15 << 60, math.MaxUint64} {
		for level := 1; level <= 11; level++ {
			for _, w := range strays(way(keyhash.Hash("a", mask), level)) {
				b := newBuilder(mask)
				x := b.at(b.tomb("a"), w)
				check(t, b.State(), x, mask, api.ErrState)
			}
		}
		if keys := keysWith(mask, 11, 2); keys != nil {
			for _, w := range strays(way(keyhash.Hash(keys[0], mask), 11)) {
				b := newBuilder(mask)
				x := b.at(b.list(keys...), w)
				check(t, b.State(), x, mask, api.ErrState)
			}
		}
	}
}

// Condition 3: the Hash of both singles of a C-node, or of one of them, has not the prefix of the I-node, because of
// one level alone.
func TestPrefixOfSingles(t *testing.T) {
	both, one := 0, 0
	for _, mask := range []uint64{63 << 6, lows, 3 * lows, math.MaxUint64} {
		for level := 1; level < 11; level++ {
			keys := keysWith(mask, level, 2)
			if keys == nil {
				continue
			}
			right := way(keyhash.Hash(keys[0], mask), level)
			for _, w := range strays(right) {
				b := newBuilder(mask)
				x := b.at(b.fan(level, keys...), w)
				check(t, b.State(), x, mask, api.ErrState)
				both++
			}
			for i := range 2000 {
				b := newBuilder(mask)
				other := way(b.hash(key(i)), level+1)
				if other[level] == keyhash.Slice(b.hash(keys[0]), level) || differences(other, right) != 1 {
					continue
				}
				x := b.at(b.fan(level, keys[0], key(i)), right)
				check(t, b.State(), x, mask, api.ErrState)
				one++
			}
		}
	}
	if both < 900 || one < 2000 {
		t.Errorf("there are only %d tries with two such singles, and %d with one", both, one)
	}
}

// differences returns the number of levels of a way at which a longer one differs.
func differences(longer, way []int) int {
	n := 0
	for level, index := range way {
		if longer[level] != index {
			n++
		}
	}
	return n
}

// Condition 3: a single at every index; it is well-formed at its slice of the level only, at the root and below it.
func TestIndexOfSingle(t *testing.T) {
	for _, mask := range []uint64{0, 63, 63 << 6, lows, 3 * lows, math.MaxUint64} {
		for index := range 64 {
			b := newBuilder(mask)
			x := b.at(b.fork(map[int]api.Ref{index: b.single("a")}), nil)
			want := api.ErrState
			if index == int(b.hash("a")%64) {
				want = api.OK
			}
			check(t, b.State(), x, mask, want)
			for level := range 11 {
				keys := keysWithCached(mask, level)
				if keys == nil {
					continue
				}
				own, other := keyhash.Slice(b.hash(keys[0]), level), keyhash.Slice(b.hash(keys[1]), level)
				want := api.ErrState
				if index == own {
					want = api.OK
				}
				if index == other {
					continue
				}
				m := b.fork(map[int]api.Ref{index: b.single(keys[0]), other: b.single(keys[1])})
				x := b.at(m, way(b.hash(keys[0]), level))
				check(t, b.State(), x, mask, want)
			}
		}
	}
}

// twoKeys are the pairs of keys that keysWithCached has found.
var twoKeys = map[[2]uint64][]string{}

// keysWithCached returns keysWith of two keys.
func keysWithCached(mask uint64, level int) []string {
	at := [2]uint64{mask, uint64(level)}
	if _, ok := twoKeys[at]; !ok {
		twoKeys[at] = keysWith(mask, level, 2)
	}
	return twoKeys[at]
}

// Condition 4: a way of I-nodes whose generations are given from the root down.
func TestGenerations(t *testing.T) {
	for _, c := range []struct {
		gens []int
		want api.Errno
	}{
		{[]int{1}, api.OK},
		{[]int{latest}, api.OK},
		{[]int{5, 5}, api.OK},
		{[]int{5, 4}, api.OK},
		{[]int{5, 1}, api.OK},
		{[]int{latest, 1}, api.OK},
		{[]int{5, 6}, api.ErrState},
		{[]int{1, latest}, api.ErrState},
		{[]int{5, 5, 5}, api.OK},
		{[]int{5, 3, 3}, api.OK},
		{[]int{5, 5, 3}, api.OK},
		{[]int{5, 3, 1}, api.OK},
		{[]int{5, 3, 4}, api.ErrState},
		{[]int{5, 3, 5}, api.ErrState},
		{[]int{5, 3, 6}, api.ErrState},
		{[]int{5, 6, 5}, api.ErrState},
		{[]int{5, 6, 1}, api.ErrState},
		{[]int{5, 6, 7}, api.ErrState},
		{[]int{9, 8, 7, 6, 5, 4, 3, 2, 1, 1, 1, 1}, api.OK},
		{[]int{9, 8, 7, 6, 5, 4, 3, 2, 1, 1, 1, 2}, api.ErrState},
		{[]int{9, 8, 7, 6, 5, 6, 3, 2, 1, 1, 1, 1}, api.ErrState},
		{[]int{4, 4, 4, 4, 4, 4, 4, 4, 4, 4, 4, 4}, api.OK},
		{[]int{4, 5, 4, 4, 4, 4, 4, 4, 4, 4, 4, 4}, api.ErrState},
		{[]int{4, 4, 4, 4, 4, 4, 4, 4, 4, 4, 4, 5}, api.ErrState},
	} {
		b := newBuilder(lows)
		level := len(c.gens) - 1
		m := b.fan(0, "a")
		if level > 0 {
			m = b.tomb("a")
		}
		in := b.inner(c.gens[level], m)
		for l := level - 1; l >= 0; l-- {
			in = b.above(in, c.gens[l], []int{keyhash.Slice(b.hash("a"), l)})
		}
		x := b.trie(in)
		check(t, b.State(), x, lows, c.want)
		checkQuiet(t, b.State(), x, true)
		checkDepth(t, b.State(), x, level)
	}
}

// Condition 4: what counts is the I-node above, not the one before, nor another one of the same C-node.
func TestGenerationsOfNeighbours(t *testing.T) {
	keys := keysWith(lows, 1, 2)
	for first := 1; first <= latest; first++ {
		for second := 1; second <= latest; second++ {
			b := newBuilder(lows)
			m := b.fork(map[int]api.Ref{
				keyhash.Slice(b.hash(keys[0]), 1): b.inner(first, b.tomb(keys[0])),
				keyhash.Slice(b.hash(keys[1]), 1): b.inner(second, b.tomb(keys[1])),
			})
			x := b.at(m, way(b.hash(keys[0]), 1))
			want := api.OK
			if first > usual || second > usual {
				want = api.ErrState
			}
			check(t, b.State(), x, lows, want)
		}
	}
}
