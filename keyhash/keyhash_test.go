package keyhash_test

import (
	"hash/fnv"
	"math"
	"strings"
	"testing"

	"ctrie/api"
	"ctrie/keyhash"
)

const ones = math.MaxUint64

// sampleKeys returns keys of all lengths around the limit, with bytes that are not text among them.
func sampleKeys() []string {
	l := []string{"", "a", "b", "c", "ab", "ba", "foobar", "\x00", "\x00\x00", "\x7f", "\x80", "\xff", "a\xffb", "é", "日本"}
	for _, n := range []int{api.MaxKey - 1, api.MaxKey, api.MaxKey + 1, 1000} {
		l = append(l, strings.Repeat("k", n), strings.Repeat("\xfe\x01", n))
	}
	return l
}

// sampleHashes returns hash values that are equal in some slices and differ in others.
func sampleHashes() []uint64 {
	l := []uint64{0, ones, 1, 2, 64, 65, 4095, 4096, 0x5555555555555555, 0xaaaaaaaaaaaaaaaa}
	for bit := range 64 {
		l = append(l, 1<<bit, 0x0123456789abcdef^1<<bit)
	}
	return l
}

// digits returns the slices of a hash value, cut off one after the other from its lowest bits.
func digits(hash uint64) [11]int {
	var l [11]int
	for i := range l {
		l[i] = int(hash % 64)
		hash /= 64
	}
	return l
}

// P1.1: a key is valid if it has at most MaxKey bytes.
func TestValid(t *testing.T) {
	cases := []struct {
		name string
		key  string
		want bool
	}{
		{"empty", "", true},
		{"one byte", "a", true},
		{"zero byte", "\x00", true},
		{"not UTF-8", "\xff\xfe", true},
		{"one less than the limit", strings.Repeat("k", api.MaxKey-1), true},
		{"at the limit", strings.Repeat("k", api.MaxKey), true},
		{"one above the limit", strings.Repeat("k", api.MaxKey+1), false},
		{"far above the limit", strings.Repeat("k", 10000), false},
		{"runes that fill the limit", strings.Repeat("é", api.MaxKey/2), true},
		{"few runes with too many bytes", strings.Repeat("é", api.MaxKey/2+1), false},
		{"the limit in runes, not in bytes", strings.Repeat("é", api.MaxKey), false},
	}
	for _, c := range cases {
		if got := keyhash.Valid(c.key); got != c.want {
			t.Errorf("%s: Valid is %v, want %v", c.name, got, c.want)
		}
	}
}

// P1.1: the values of the chapter's examples, of DOC.md's first example, and of FNV-1a's published test vectors.
func TestHashValues(t *testing.T) {
	cases := []struct {
		key  string
		mask uint64
		want uint64
	}{
		{"", ones, 14695981039346656037},
		{"a", ones, 12638187200555641996},
		{"b", ones, 0xaf63df4c8601f1a5},
		{"foobar", ones, 0x85944171f73967e8},
		{"", 0, 0},
		{"a", 0, 0},
		{"a", 63, 12},
		{"b", 63, 37},
		{"c", 63, 50},
		{"", 63, 37},
		{"a", 1 << 63, 1 << 63},
		{"foobar", 0xffff0000, 0xf7390000},
	}
	for _, c := range cases {
		if got := keyhash.Hash(c.key, c.mask); got != c.want {
			t.Errorf("Hash of %q with mask %x is %x, want %x", c.key, c.mask, got, c.want)
		}
	}
}

// P1.1: keys of every length have a hash value, also those that are not valid.
func TestHashOfAnyKey(t *testing.T) {
	masks := append(sampleHashes(), 63, 1<<32-1, 0xf<<60)
	for _, key := range sampleKeys() {
		f := fnv.New64a()
		f.Write([]byte(key))
		for _, mask := range masks {
			if got, want := keyhash.Hash(key, mask), f.Sum64()&mask; got != want {
				t.Errorf("Hash of %q with mask %x is %x, want %x", key, mask, got, want)
			}
		}
	}
}

// P1.2: the chapter's examples, the highest slice, and both ends of a slice.
func TestSliceValues(t *testing.T) {
	cases := []struct {
		hash  uint64
		level int
		want  int
	}{
		{4095, 0, 63},
		{4095, 1, 63},
		{4095, 2, 0},
		{32, 0, 32},
		{64, 0, 0},
		{64, 1, 1},
		{ones, 0, 63},
		{ones, 9, 63},
		{ones, 10, 15},
		{1 << 59, 9, 32},
		{1 << 59, 10, 0},
		{1 << 60, 9, 0},
		{1 << 60, 10, 1},
		{1 << 63, 10, 8},
	}
	for _, c := range cases {
		if got := keyhash.Slice(c.hash, c.level); got != c.want {
			t.Errorf("Slice of %x and level %d is %d, want %d", c.hash, c.level, got, c.want)
		}
	}
}

// P1.2: every slice of every sample.
func TestSliceOfAllLevels(t *testing.T) {
	for _, hash := range sampleHashes() {
		for level, want := range digits(hash) {
			if got := keyhash.Slice(hash, level); got != want {
				t.Errorf("Slice of %x and level %d is %d, want %d", hash, level, got, want)
			}
		}
	}
}

// P1.2: levels without a slice, with some whose product with the width of a slice overflows.
func TestSliceOfOtherLevels(t *testing.T) {
	for _, level := range []int{-1, -2, -11, -64, math.MinInt, math.MinInt + 1, 11, 12, 64, 1 << 20, math.MaxInt, math.MaxInt/3 + 1, math.MaxInt/2 + 1} {
		if got := keyhash.Slice(ones, level); got != 0 {
			t.Errorf("Slice of level %d is %d, want 0", level, got)
		}
	}
}

// P1.3: slices decide from level 0 on, the least significant one first; keys decide only between equal hash values.
func TestLessValues(t *testing.T) {
	cases := []struct {
		name string
		h    uint64
		a    string
		k    uint64
		b    string
		want bool
	}{
		{"equal, lesser key", 5, "a", 5, "b", true},
		{"equal, greater key", 5, "b", 5, "a", false},
		{"equal, same key", 5, "b", 5, "b", false},
		{"equal, both keys empty", 5, "", 5, "", false},
		{"equal, empty key first", 5, "", 5, "\x00", true},
		{"equal, shorter key first", 5, "a", 5, "ab", true},
		{"equal, longer key but lesser byte", 5, "ab", 5, "b", true},
		{"equal, bytes without a sign", 5, "\x7f", 5, "\x80", true},
		{"equal, bytes and not letters", 5, "z", 5, "é", true},
		{"all ones, lesser key", ones, "a", ones, "b", true},
		{"first slice lesser", 1, "b", 2, "a", true},
		{"first slice greater", 2, "a", 1, "b", false},
		{"first slice lesser, same key", 1, "a", 2, "a", true},
		{"first slice decides against the number", 64, "z", 1, "a", true},
		{"first slice decides against the number, reversed", 1, "a", 64, "z", false},
		{"first slice decides against the highest bits", 1 << 63, "z", 1, "a", true},
		{"second slice decides", 64, "z", 128, "a", true},
		{"second slice decides against the third", 3<<12 | 1<<6, "z", 1<<12 | 2<<6, "a", true},
		{"a slice is no signed number", 31, "z", 32, "a", true},
		{"highest bit alone, greater", 1 << 63, "a", 0, "b", false},
		{"highest bit alone, lesser", 0, "b", 1 << 63, "a", true},
		{"highest slice, lesser", 7<<60 | 5, "b", 8<<60 | 5, "a", true},
		{"highest slice, greater", 8<<60 | 5, "a", 7<<60 | 5, "b", false},
	}
	for _, c := range cases {
		if got := keyhash.Less(c.h, c.a, c.k, c.b); got != c.want {
			t.Errorf("%s: Less is %v, want %v", c.name, got, c.want)
		}
	}
}

// P1.3: every pair of samples, compared slice by slice.
func TestLessOfAllPairs(t *testing.T) {
	for _, h := range sampleHashes() {
		for _, k := range sampleHashes() {
			for _, keys := range [][2]string{{"a", "b"}, {"b", "a"}, {"a", "a"}} {
				want := lesser(digits(h), digits(k), keys[0], keys[1])
				if got := keyhash.Less(h, keys[0], k, keys[1]); got != want {
					t.Errorf("Less of %x %q and %x %q is %v, want %v", h, keys[0], k, keys[1], got, want)
				}
			}
		}
	}
}

// lesser says what Less is to say, from the lists of all slices.
func lesser(h, k [11]int, a, b string) bool {
	for i := range h {
		if h[i] != k[i] {
			return h[i] < k[i]
		}
	}
	return a < b
}

// P1.4: the chapter's example, equal hash values, and differences in the first and in the highest slice.
func TestCommonValues(t *testing.T) {
	cases := []struct {
		h, k uint64
		want int
	}{
		{1, 65, 1},
		{1, 2, 0},
		{0, 1, 0},
		{0, 32, 0},
		{0, 64, 1},
		{7, 7, 11},
		{0, 0, 11},
		{ones, ones, 11},
		{ones, 0, 0},
		{0, 1 << 59, 9},
		{0, 1 << 60, 10},
		{0, 1 << 63, 10},
		{ones, ones >> 1, 10},
		{65, 1<<63 | 1<<6, 0},
		{1<<63 | 64, 0, 1},
	}
	for _, c := range cases {
		if got := keyhash.Common(c.h, c.k); got != c.want {
			t.Errorf("Common of %x and %x is %d, want %d", c.h, c.k, got, c.want)
		}
		if got := keyhash.Common(c.k, c.h); got != c.want {
			t.Errorf("Common of %x and %x is %d, want %d", c.k, c.h, got, c.want)
		}
	}
}

// P1.4: the lowest bit that differs tells the first level that differs, whatever differs above it.
func TestCommonOfEveryBit(t *testing.T) {
	for _, h := range sampleHashes() {
		if got := keyhash.Common(h, h); got != 11 {
			t.Errorf("Common of %x and itself is %d, want 11", h, got)
		}
		for bit := range 64 {
			for _, k := range []uint64{h ^ 1<<bit, h ^ ones<<bit, h ^ (1<<bit | 1<<63)} {
				if got := keyhash.Common(h, k); got != bit/6 {
					t.Errorf("Common of %x and %x is %d, want %d", h, k, got, bit/6)
				}
			}
		}
	}
}

// The consequences: the slices determine the hash value, and Less is a strict total order.
func TestOrderIsStrictAndTotal(t *testing.T) {
	type item struct {
		hash uint64
		key  string
	}
	var l []item
	for _, h := range []uint64{0, 1, 2, 63, 64, 65, 128, 4095, 1 << 59, 1 << 60, 1 << 63, ones} {
		for _, key := range []string{"", "a", "ab", "b", "\xff"} {
			l = append(l, item{h, key})
		}
	}
	less := func(x, y item) bool { return keyhash.Less(x.hash, x.key, y.hash, y.key) }
	for _, x := range l {
		for _, y := range l {
			if (keyhash.Common(x.hash, y.hash) == 11) != (x.hash == y.hash) {
				t.Errorf("Common of %x and %x does not tell whether they are equal", x.hash, y.hash)
			}
			before, after := less(x, y), less(y, x)
			if before && after || (before || after) == (x == y) {
				t.Errorf("%v and %v: before %v, after %v", x, y, before, after)
			}
			for _, z := range l {
				if before && less(y, z) && !less(x, z) {
					t.Errorf("%v, %v and %v are not in an order", x, y, z)
				}
			}
		}
	}
}
