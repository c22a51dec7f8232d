package bitmap_test

import (
	"math"
	"slices"
	"testing"

	"ctrie/bitmap"
)

const full = math.MaxUint64

// sampleSets returns the empty set, the full one, every set with one element and every set that lacks one,
// every set of the numbers up to an element and from it on, and some without such an order.
func sampleSets() []uint64 {
	l := []uint64{0, full, 9, 1<<63 | 9, 1<<63 | 1, 0x5555555555555555, 0xaaaaaaaaaaaaaaaa, 0x0123456789abcdef, 0xfedcba9876543210, 1<<31 | 1<<32}
	for i := range 64 {
		l = append(l, 1<<i, full^1<<i, 1<<i-1, full<<i)
	}
	return l
}

// sampleNumbers returns every number that a set can contain, and numbers below and above them. Among these are some
// that differ from an element by a multiple of 64 or 2 to the power of 32, or by the sign alone.
func sampleNumbers() []int {
	l := []int{math.MinInt, math.MinInt + 1, math.MinInt + 63, math.MinInt32, -1 << 32, -1<<32 + 3, -1000, -128, -65, -64, -63, -61, -3, -2, -1}
	for i := range 64 {
		l = append(l, i)
	}
	return append(l, 64, 65, 67, 127, 128, 192, 256, 259, 1000, 1<<16, 1<<32, 1<<32+3, math.MaxInt32, math.MaxInt-63, math.MaxInt-1, math.MaxInt)
}

// elements returns the elements in ascending order, each of them found by cutting off the bits below it.
func elements(b uint64) []int {
	var l []int
	for i := 0; b != 0; i++ {
		if b%2 == 1 {
			l = append(l, i)
		}
		b /= 2
	}
	return l
}

// set returns the set of those numbers of a list that a set can contain.
func set(l []int) uint64 {
	b := uint64(0)
	for i := 63; i >= 0; i-- {
		b *= 2
		if slices.Contains(l, i) {
			b++
		}
	}
	return b
}

// P2.1: the chapter's example, the empty set, the full one, and both ends.
func TestCountValues(t *testing.T) {
	cases := []struct {
		b    uint64
		want int
	}{
		{0, 0},
		{9, 2},
		{1, 1},
		{1 << 63, 1},
		{1<<63 | 1, 2},
		{1<<31 | 1<<32, 2},
		{0x5555555555555555, 32},
		{full >> 1, 63},
		{full - 1, 63},
		{full, 64},
	}
	for _, c := range cases {
		if got := bitmap.Count(c.b); got != c.want {
			t.Errorf("Count of %x is %d, want %d", c.b, got, c.want)
		}
	}
}

// P2.1: the elements of 9 are 0 and 3; no number below 0 or above 63 is an element of any set.
func TestHasValues(t *testing.T) {
	cases := []struct {
		b    uint64
		i    int
		want bool
	}{
		{9, 0, true},
		{9, 1, false},
		{9, 2, false},
		{9, 3, true},
		{9, 4, false},
		{9, 63, false},
		{0, 0, false},
		{0, 63, false},
		{1, 0, true},
		{1, 63, false},
		{1 << 63, 0, false},
		{1 << 63, 62, false},
		{1 << 63, 63, true},
		{1 << 31, 31, true},
		{1 << 32, 32, true},
		{full, 0, true},
		{full, 63, true},
		{full, -1, false},
		{full, 64, false},
		{full, 65, false},
		{full, -64, false},
		{full, math.MinInt, false},
		{full, math.MaxInt, false},
	}
	for _, c := range cases {
		if got := bitmap.Has(c.b, c.i); got != c.want {
			t.Errorf("Has of %x and %d is %v, want %v", c.b, c.i, got, c.want)
		}
	}
}

// P2.1: every sample.
func TestCountAndHasOfAll(t *testing.T) {
	for _, b := range sampleSets() {
		l := elements(b)
		if got := bitmap.Count(b); got != len(l) {
			t.Errorf("Count of %x is %d, want %d", b, got, len(l))
		}
		for _, i := range sampleNumbers() {
			if got, want := bitmap.Has(b, i), slices.Contains(l, i); got != want {
				t.Errorf("Has of %x and %d is %v, want %v", b, i, got, want)
			}
		}
	}
}

// P2.2: the chapter's examples, elements and other numbers, both ends, and numbers that no set contains.
func TestPositionValues(t *testing.T) {
	cases := []struct {
		b    uint64
		i    int
		want int
	}{
		{9, 0, 0},
		{9, 1, 1},
		{9, 2, 1},
		{9, 3, 1},
		{9, 4, 2},
		{9, 63, 2},
		{9, 64, 2},
		{9, -1, 0},
		{0, 0, 0},
		{0, 63, 0},
		{0, 64, 0},
		{1 << 63, 63, 0},
		{1 << 63, 64, 1},
		{1 << 63, 65, 1},
		{full, -1, 0},
		{full, -64, 0},
		{full, math.MinInt, 0},
		{full, 0, 0},
		{full, 1, 1},
		{full, 32, 32},
		{full, 63, 63},
		{full, 64, 64},
		{full, 65, 64},
		{full, 128, 64},
		{full, math.MaxInt, 64},
	}
	for _, c := range cases {
		if got := bitmap.Position(c.b, c.i); got != c.want {
			t.Errorf("Position of %x and %d is %d, want %d", c.b, c.i, got, c.want)
		}
	}
}

// P2.2: every sample, the lesser elements counted one by one.
func TestPositionOfAll(t *testing.T) {
	for _, b := range sampleSets() {
		l := elements(b)
		for _, i := range sampleNumbers() {
			want := 0
			for _, e := range l {
				if e < i {
					want++
				}
			}
			if got := bitmap.Position(b, i); got != want {
				t.Errorf("Position of %x and %d is %d, want %d", b, i, got, want)
			}
		}
	}
}

// P2.3: elements and other numbers, both ends, and numbers that no set contains.
func TestWithAndWithoutValues(t *testing.T) {
	cases := []struct {
		b             uint64
		i             int
		with, without uint64
	}{
		{9, 0, 9, 8},
		{9, 1, 11, 9},
		{9, 3, 9, 1},
		{9, 63, 1<<63 | 9, 9},
		{0, 0, 1, 0},
		{0, 63, 1 << 63, 0},
		{0, 31, 1 << 31, 0},
		{0, 32, 1 << 32, 0},
		{1, 0, 1, 0},
		{1 << 63, 63, 1 << 63, 0},
		{full, 0, full, full - 1},
		{full, 63, full, full >> 1},
		{9, -1, 9, 9},
		{9, 64, 9, 9},
		{9, 65, 9, 9},
		{0, -1, 0, 0},
		{0, 64, 0, 0},
		{full, -1, full, full},
		{full, -64, full, full},
		{full, 64, full, full},
		{full, 127, full, full},
		{0, math.MinInt, 0, 0},
		{full, math.MinInt, full, full},
		{0, math.MaxInt, 0, 0},
		{full, math.MaxInt, full, full},
	}
	for _, c := range cases {
		if got := bitmap.With(c.b, c.i); got != c.with {
			t.Errorf("With of %x and %d is %x, want %x", c.b, c.i, got, c.with)
		}
		if got := bitmap.Without(c.b, c.i); got != c.without {
			t.Errorf("Without of %x and %d is %x, want %x", c.b, c.i, got, c.without)
		}
	}
}

// P2.3: every sample, the elements added and removed in their list.
func TestWithAndWithoutOfAll(t *testing.T) {
	for _, b := range sampleSets() {
		l := elements(b)
		for _, i := range sampleNumbers() {
			with := set(append(slices.Clone(l), i))
			if got := bitmap.With(b, i); got != with {
				t.Errorf("With of %x and %d is %x, want %x", b, i, got, with)
			}
			without := set(slices.DeleteFunc(slices.Clone(l), func(e int) bool { return e == i }))
			if got := bitmap.Without(b, i); got != without {
				t.Errorf("Without of %x and %d is %x, want %x", b, i, got, without)
			}
		}
	}
}

// P2.4: the chapter's example, the empty set, and both ends.
func TestIndicesValues(t *testing.T) {
	cases := []struct {
		b    uint64
		want []int
	}{
		{0, nil},
		{9, []int{0, 3}},
		{1, []int{0}},
		{1 << 63, []int{63}},
		{1<<63 | 9, []int{0, 3, 63}},
		{1<<31 | 1<<32, []int{31, 32}},
	}
	for _, c := range cases {
		if got := bitmap.Indices(c.b); !slices.Equal(got, c.want) {
			t.Errorf("Indices of %x are %v, want %v", c.b, got, c.want)
		}
	}
}

// P2.4: the chapter's example, a position below 0, the last one, and those behind the last.
func TestAtValues(t *testing.T) {
	cases := []struct {
		b    uint64
		pos  int
		want int
	}{
		{9, 0, 0},
		{9, 1, 3},
		{9, 2, -1},
		{9, -1, -1},
		{0, 0, -1},
		{0, 1, -1},
		{0, -1, -1},
		{1 << 63, 0, 63},
		{1 << 63, 1, -1},
		{1 << 63, 63, -1},
		{full, 0, 0},
		{full, 63, 63},
		{full, 64, -1},
		{full, 65, -1},
		{full, -1, -1},
		{full, -63, -1},
		{full, -64, -1},
		{full, math.MinInt, -1},
		{full, math.MaxInt, -1},
	}
	for _, c := range cases {
		if got := bitmap.At(c.b, c.pos); got != c.want {
			t.Errorf("At of %x and %d is %d, want %d", c.b, c.pos, got, c.want)
		}
	}
}

// P2.4: every sample.
func TestIndicesAndAtOfAll(t *testing.T) {
	for _, b := range sampleSets() {
		l := elements(b)
		if got := bitmap.Indices(b); !slices.Equal(got, l) {
			t.Errorf("Indices of %x are %v, want %v", b, got, l)
		}
		for _, pos := range sampleNumbers() {
			want := -1
			if pos >= 0 && pos < len(l) {
				want = l[pos]
			}
			if got := bitmap.At(b, pos); got != want {
				t.Errorf("At of %x and %d is %d, want %d", b, pos, got, want)
			}
		}
	}
}

// P2.4 with R3: a list of indices is new, also the memory behind its last element.
func TestIndicesAreNew(t *testing.T) {
	for _, b := range sampleSets() {
		l := bitmap.Indices(b)
		l = l[:cap(l)]
		for k := range l {
			l[k] = -7
		}
		if got, want := bitmap.Indices(b), elements(b); !slices.Equal(got, want) {
			t.Errorf("Indices of %x are %v after a change of an earlier list, want %v", b, got, want)
		}
	}
}

// The consequence: an element is at its position. The position of 64 is Count, as in the chapter's examples.
func TestElementsAreAtTheirPositions(t *testing.T) {
	for _, b := range sampleSets() {
		for _, i := range elements(b) {
			if got := bitmap.At(b, bitmap.Position(b, i)); got != i {
				t.Errorf("the element of %x at the position of %d is %d", b, i, got)
			}
		}
		if got, want := bitmap.Position(b, 64), bitmap.Count(b); got != want {
			t.Errorf("Position of %x and 64 is %d, want %d", b, got, want)
		}
	}
}
