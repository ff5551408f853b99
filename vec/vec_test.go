package vec_test

import (
	"math"
	"math/rand"
	"slices"
	"testing"

	"tatting/api"
	"tatting/vec"
)

const (
	least = math.MinInt
	most  = math.MaxInt
	limit = api.MaxTokens
	ones  = math.MaxUint64
	top   = 1 << 63
)

// bit tells bit i of x, which goes on with zero words.
func bit(x []uint64, i int) bool {
	return i/64 < len(x) && x[i/64]>>(i%64)&1 == 1
}

// pack makes so many words, and sets the bits that is tells.
func pack(words int, is func(int) bool) []uint64 {
	x := make([]uint64, words)
	for i := range 64 * words {
		if is(i) {
			x[i/64] |= 1 << (i % 64)
		}
	}
	return x
}

// sum adds bit by bit, as on paper.
func sum(x, y []uint64) []uint64 {
	carry := false
	return pack(max(len(x), len(y)), func(i int) bool {
		a, b := bit(x, i), bit(y, i)
		s := (a != b) != carry
		carry = a && b || a && carry || b && carry
		return s
	})
}

// difference subtracts bit by bit, as on paper.
func difference(x, y []uint64) []uint64 {
	borrow := false
	return pack(max(len(x), len(y)), func(i int) bool {
		a, b := bit(x, i), bit(y, i)
		d := (a != b) != borrow
		borrow = !a && (b || borrow) || b && borrow
		return d
	})
}

// vectors returns every vector of up to length of the given words.
func vectors(words []uint64, length int) [][]uint64 {
	all := [][]uint64{nil}
	last := all
	for range length {
		var next [][]uint64
		for _, x := range last {
			for _, w := range words {
				next = append(next, append(slices.Clone(x), w))
			}
		}
		all = append(all, next...)
		last = next
	}
	return all
}

// repeat returns a vector of so many equal words.
func repeat(w uint64, words int) []uint64 {
	return slices.Repeat([]uint64{w}, words)
}

// fill overwrites a vector and its spare capacity.
func fill(x []uint64, with uint64) {
	x = x[:cap(x)]
	for k := range x {
		x[k] = with
	}
}

// widths has the words that each width needs.
var widths = []struct{ n, words int }{
	{least, 0}, {least + 1, 0}, {-1 << 32, 0}, {-65, 0}, {-64, 0}, {-63, 0}, {-1, 0}, {0, 0},
	{1, 1}, {2, 1}, {62, 1}, {63, 1}, {64, 1}, {65, 2}, {66, 2}, {127, 2}, {128, 2}, {129, 3}, {191, 3}, {192, 3}, {193, 4},
	{limit - 65, limit/64 - 1}, {limit - 64, limit/64 - 1}, {limit - 63, limit / 64}, {limit - 1, limit / 64}, {limit, limit / 64},
	{limit + 1, limit / 64}, {limit + 64, limit / 64}, {1 << 32, limit / 64}, {1<<32 + 1, limit / 64}, {most - 62, limit / 64}, {most, limit / 64},
}

// bits tells what a width counts as.
func bits(n int) int {
	return min(max(n, 0), limit)
}

// P5.1
func TestWords(t *testing.T) {
	for _, c := range widths {
		if got := vec.Words(c.n); got != c.words {
			t.Errorf("P5.1: Words(%d): %d", c.n, got)
		}
	}
	for n := range 2000 {
		words := 0
		for 64*words < n {
			words++
		}
		if got := vec.Words(n); got != words {
			t.Errorf("P5.1: Words(%d): %d", n, got)
		}
	}
}

// P5.1
func TestOnes(t *testing.T) {
	for _, c := range []struct {
		n    int
		want []uint64
	}{
		{-1, nil}, {0, nil}, {1, []uint64{1}}, {2, []uint64{3}}, {63, []uint64{ones >> 1}}, {64, []uint64{ones}},
		{65, []uint64{ones, 1}}, {127, []uint64{ones, ones >> 1}}, {128, []uint64{ones, ones}}, {129, []uint64{ones, ones, 1}},
	} {
		if got := vec.Ones(c.n); !slices.Equal(got, c.want) {
			t.Errorf("P5.1: Ones(%d): %x", c.n, got)
		}
	}
	for _, c := range widths {
		want := pack(c.words, func(i int) bool { return i < bits(c.n) })
		if got := vec.Ones(c.n); !slices.Equal(got, want) {
			t.Errorf("P5.1: Ones(%d): %d words", c.n, len(got))
		}
	}
}

// P5.1: bits at and above n are cleared, words that x does not have are 0,
// and words that it has too many are dropped.
func TestFit(t *testing.T) {
	for _, c := range []struct {
		x    []uint64
		n    int
		want []uint64
	}{
		{nil, -1, nil}, {nil, 0, nil}, {nil, 1, []uint64{0}}, {nil, 64, []uint64{0}}, {[]uint64{}, 65, []uint64{0, 0}},
		{[]uint64{ones}, -1, nil}, {[]uint64{ones}, 0, nil}, {[]uint64{ones, ones}, least, nil},
		{[]uint64{ones}, 1, []uint64{1}}, {[]uint64{2}, 1, []uint64{0}}, {[]uint64{6}, 2, []uint64{2}},
		{[]uint64{ones}, 63, []uint64{ones >> 1}}, {[]uint64{top}, 63, []uint64{0}},
		{[]uint64{ones}, 64, []uint64{ones}}, {[]uint64{top}, 64, []uint64{top}}, {[]uint64{top, 1}, 64, []uint64{top}},
		{[]uint64{ones}, 65, []uint64{ones, 0}}, {[]uint64{ones, ones}, 65, []uint64{ones, 1}}, {[]uint64{0, 2}, 65, []uint64{0, 0}},
		{[]uint64{7, 8, 9}, 64, []uint64{7}}, {[]uint64{7, 8, 9}, 128, []uint64{7, 8}}, {[]uint64{7, 8, 9}, 129, []uint64{7, 8, 1}},
		{[]uint64{7, 8, 9}, 192, []uint64{7, 8, 9}}, {[]uint64{7, 8, 9}, 200, []uint64{7, 8, 9, 0}},
	} {
		if got := vec.Fit(c.x, c.n); !slices.Equal(got, c.want) {
			t.Errorf("P5.1: Fit(%x, %d): %x", c.x, c.n, got)
		}
	}
}

// P5.1
func TestNot(t *testing.T) {
	for _, c := range []struct {
		x    []uint64
		n    int
		want []uint64
	}{
		{nil, -1, nil}, {nil, 0, nil}, {nil, 1, []uint64{1}}, {nil, 64, []uint64{ones}}, {[]uint64{}, 65, []uint64{ones, 1}},
		{[]uint64{0}, -1, nil}, {[]uint64{0}, 0, nil}, {[]uint64{0, 0}, least, nil},
		{[]uint64{0}, 1, []uint64{1}}, {[]uint64{1}, 1, []uint64{0}}, {[]uint64{2}, 1, []uint64{1}}, {[]uint64{5}, 3, []uint64{2}},
		{[]uint64{0}, 63, []uint64{ones >> 1}}, {[]uint64{top}, 63, []uint64{ones >> 1}},
		{[]uint64{0}, 64, []uint64{ones}}, {[]uint64{top}, 64, []uint64{ones >> 1}}, {[]uint64{top, 1}, 64, []uint64{ones >> 1}},
		{[]uint64{ones}, 65, []uint64{0, 1}}, {[]uint64{ones, ones}, 65, []uint64{0, 0}}, {[]uint64{0, 2}, 65, []uint64{ones, 1}},
		{[]uint64{7, 8, 9}, 128, []uint64{ones - 7, ones - 8}}, {[]uint64{7, 8, 9}, 130, []uint64{ones - 7, ones - 8, 2}},
		{[]uint64{7}, 130, []uint64{ones - 7, ones, 3}},
	} {
		if got := vec.Not(c.x, c.n); !slices.Equal(got, c.want) {
			t.Errorf("P5.1: Not(%x, %d): %x", c.x, c.n, got)
		}
	}
}

// P5.1: bits at and above n do not count.
func TestCount(t *testing.T) {
	for _, c := range []struct {
		x       []uint64
		n, want int
	}{
		{nil, -1, 0}, {nil, 0, 0}, {nil, 64, 0}, {[]uint64{}, 65, 0}, {nil, most, 0},
		{[]uint64{ones}, least, 0}, {[]uint64{ones}, -1, 0}, {[]uint64{ones}, 0, 0}, {[]uint64{ones}, 1, 1}, {[]uint64{2}, 1, 0}, {[]uint64{6}, 2, 1},
		{[]uint64{ones}, 63, 63}, {[]uint64{top}, 63, 0}, {[]uint64{ones}, 64, 64}, {[]uint64{top}, 64, 1}, {[]uint64{ones}, 65, 64},
		{[]uint64{ones, ones}, 64, 64}, {[]uint64{ones, ones}, 65, 65}, {[]uint64{0, 2}, 65, 0}, {[]uint64{0, 2}, 66, 1},
		{[]uint64{7, 8, 9}, 192, 6}, {[]uint64{7, 8, 9}, 131, 5}, {[]uint64{7, 8, 9}, 128, 4}, {[]uint64{7, 8, 9}, most, 6},
	} {
		if got := vec.Count(c.x, c.n); got != c.want {
			t.Errorf("P5.1: Count(%x, %d): %d", c.x, c.n, got)
		}
	}
}

// checkWidth holds the calls that have a width against the words of P5.1 and
// P5.2.
func checkWidth(t *testing.T, x []uint64, n int) {
	t.Helper()
	words := (bits(n) + 63) / 64
	fit := pack(words, func(i int) bool { return i < bits(n) && bit(x, i) })
	not := pack(words, func(i int) bool { return i < bits(n) && !bit(x, i) })
	if got := vec.Fit(x, n); !slices.Equal(got, fit) {
		t.Fatalf("P5.1: Fit(%x, %d): %x", x, n, got)
	}
	if got := vec.Not(x, n); !slices.Equal(got, not) {
		t.Fatalf("P5.1: Not(%x, %d): %x", x, n, got)
	}
	if got := vec.Not(vec.Not(x, n), n); !slices.Equal(got, fit) {
		t.Fatalf("P5.2: Not(Not(%x, %d), %d): %x", x, n, n, got)
	}
	count := 0
	for i := range 64 * words {
		if bit(fit, i) {
			count++
		}
	}
	if got := vec.Count(x, n); got != count {
		t.Fatalf("P5.1: Count(%x, %d): %d", x, n, got)
	}
}

// P5.1 and P5.2: every width about short vectors.
func TestManyWidths(t *testing.T) {
	for _, x := range vectors([]uint64{0, ones, 0x8000000180000001, 0x0123456789abcdef}, 3) {
		for n := -2; n <= 200; n++ {
			checkWidth(t, x, n)
		}
	}
}

// P5.1 and P5.2: the widths at their edges, with vectors that end before, at
// and behind the limit.
func TestWidthsAtTheLimit(t *testing.T) {
	for _, words := range []int{0, 1, 2, limit/64 - 1, limit / 64, limit/64 + 1, limit/64 + 3} {
		for _, w := range []uint64{ones, 0xf00000010000000e} {
			for _, c := range widths {
				checkWidth(t, repeat(w, words), c.n)
			}
		}
	}
}

// P5.1, with the examples of the chapter first.
func TestAddAndSub(t *testing.T) {
	for _, c := range []struct {
		x, y, sum, difference []uint64
	}{
		{[]uint64{ones, 0}, []uint64{1}, []uint64{0, 1}, []uint64{ones - 1, 0}},
		{[]uint64{ones}, []uint64{1}, []uint64{0}, []uint64{ones - 1}},

		// No words at all, and none on one side.
		{nil, nil, nil, nil}, {[]uint64{}, nil, nil, nil},
		{[]uint64{5, 6}, nil, []uint64{5, 6}, []uint64{5, 6}},
		{nil, []uint64{5, 6}, []uint64{5, 6}, []uint64{ones - 4, ones - 6}},
		{nil, []uint64{1, 0}, []uint64{1, 0}, []uint64{ones, ones}},
		{nil, []uint64{0, 0}, []uint64{0, 0}, []uint64{0, 0}},

		{[]uint64{5}, []uint64{3}, []uint64{8}, []uint64{2}},
		{[]uint64{3}, []uint64{5}, []uint64{8}, []uint64{ones - 1}},
		{[]uint64{top}, []uint64{top}, []uint64{0}, []uint64{0}},
		{[]uint64{5, 7}, []uint64{3, 4}, []uint64{8, 11}, []uint64{2, 3}},

		// A carry, and a borrow, through several words.
		{[]uint64{ones, ones, ones, 4}, []uint64{1}, []uint64{0, 0, 0, 5}, []uint64{ones - 1, ones, ones, 4}},
		{[]uint64{1}, []uint64{ones, ones, ones, 4}, []uint64{0, 0, 0, 5}, []uint64{2, 0, 0, ones - 4}},
		{[]uint64{0, 0, 0, 4}, []uint64{1}, []uint64{1, 0, 0, 4}, []uint64{ones, ones, ones, 3}},
		{[]uint64{ones, 1, 2}, []uint64{1, ones - 1}, []uint64{0, 0, 3}, []uint64{ones - 1, 3, 1}},

		// A carry, and a borrow, out of the last word; the carry does not add
		// a word.
		{[]uint64{ones, ones, ones}, []uint64{1}, []uint64{0, 0, 0}, []uint64{ones - 1, ones, ones}},
		{[]uint64{1}, []uint64{ones, ones, ones}, []uint64{0, 0, 0}, []uint64{2, 0, 0}},
		{[]uint64{0, 0, 0}, []uint64{1}, []uint64{1, 0, 0}, []uint64{ones, ones, ones}},
		{[]uint64{ones, ones}, []uint64{ones, ones}, []uint64{ones - 1, ones}, []uint64{0, 0}},

		// A word that makes a carry of its own, and takes one.
		{[]uint64{ones, ones, 0}, []uint64{ones, ones, 0}, []uint64{ones - 1, ones, 1}, []uint64{0, 0, 0}},
		{[]uint64{0, ones, 9}, []uint64{1, ones, 2}, []uint64{1, ones - 1, 12}, []uint64{ones, ones, 6}},
	} {
		if got := vec.Add(c.x, c.y); !slices.Equal(got, c.sum) {
			t.Errorf("P5.1: Add(%x, %x): %x", c.x, c.y, got)
		}
		if got := vec.Sub(c.x, c.y); !slices.Equal(got, c.difference) {
			t.Errorf("P5.1: Sub(%x, %x): %x", c.x, c.y, got)
		}
	}
}

// P5.1
func TestAndAndOr(t *testing.T) {
	for _, c := range []struct {
		x, y, and, or []uint64
	}{
		{nil, nil, nil, nil}, {nil, []uint64{}, nil, nil},
		{[]uint64{5, 6}, nil, []uint64{0, 0}, []uint64{5, 6}},
		{nil, []uint64{5, 6}, []uint64{0, 0}, []uint64{5, 6}},
		{[]uint64{12}, []uint64{10}, []uint64{8}, []uint64{14}},
		{[]uint64{12, 3, ones}, []uint64{10}, []uint64{8, 0, 0}, []uint64{14, 3, ones}},
		{[]uint64{10}, []uint64{12, 3, ones}, []uint64{8, 0, 0}, []uint64{14, 3, ones}},
		{[]uint64{ones, top}, []uint64{7, top | 1}, []uint64{7, top}, []uint64{ones, top | 1}},
	} {
		if got := vec.And(c.x, c.y); !slices.Equal(got, c.and) {
			t.Errorf("P5.1: And(%x, %x): %x", c.x, c.y, got)
		}
		if got := vec.Or(c.x, c.y); !slices.Equal(got, c.or) {
			t.Errorf("P5.1: Or(%x, %x): %x", c.x, c.y, got)
		}
	}
}

// checkTwo holds the calls of two vectors against the words of P5.1 and P5.2.
func checkTwo(t *testing.T, x, y []uint64) {
	t.Helper()
	words := max(len(x), len(y))
	for _, c := range []struct {
		name      string
		got, want []uint64
	}{
		{"P5.1: Add", vec.Add(x, y), sum(x, y)},
		{"P5.1: Sub", vec.Sub(x, y), difference(x, y)},
		{"P5.1: And", vec.And(x, y), pack(words, func(i int) bool { return bit(x, i) && bit(y, i) })},
		{"P5.1: Or", vec.Or(x, y), pack(words, func(i int) bool { return bit(x, i) || bit(y, i) })},
		{"P5.2: Sub of Add", vec.Sub(vec.Add(x, y), y), pack(words, func(i int) bool { return bit(x, i) })},
	} {
		if !slices.Equal(c.got, c.want) {
			t.Fatalf("%s of %x and %x: %x, not %x", c.name, x, y, c.got, c.want)
		}
	}
}

// P5.1 and P5.2: every two short vectors of words at which carries begin, go
// on and end.
func TestTwoShortVectors(t *testing.T) {
	all := vectors([]uint64{0, 1, top, ones}, 3)
	for _, x := range all {
		for _, y := range all {
			checkTwo(t, x, y)
		}
	}
}

// P5.1 and P5.2: longer vectors.
func TestManyVectors(t *testing.T) {
	r := rand.New(rand.NewSource(5))
	draw := func() []uint64 {
		x := make([]uint64, r.Intn(9))
		for k := range x {
			x[k] = []uint64{0, ones, r.Uint64(), r.Uint64() & r.Uint64(), uint64(r.Intn(4))}[r.Intn(5)]
		}
		return x
	}
	for range 1500 {
		x, y := draw(), draw()
		checkTwo(t, x, y)
		checkTwo(t, x, x)
		checkWidth(t, x, r.Intn(640))
		i := r.Intn(640)
		if vec.Get(x, i) != bit(x, i) {
			t.Fatalf("P5.1: Get(%x, %d)", x, i)
		}
		want := pack(len(x), func(k int) bool { return k == i || bit(x, k) })
		if got := vec.Set(x, i); !slices.Equal(got, want) {
			t.Fatalf("P5.1: Set(%x, %d): %x", x, i, got)
		}
	}
}

// P5.1: before the first bit, at it, within, at the last bit, and behind it.
func TestGetAndSet(t *testing.T) {
	x := []uint64{9, top, 1}
	for _, c := range []struct {
		i   int
		is  bool
		set []uint64
	}{
		{least, false, x}, {least + 64, false, x}, {-1 << 32, false, x}, {-192, false, x}, {-65, false, x}, {-64, false, x}, {-63, false, x}, {-1, false, x},
		{0, true, x}, {1, false, []uint64{11, top, 1}}, {3, true, x}, {63, false, []uint64{top | 9, top, 1}},
		{64, false, []uint64{9, top | 1, 1}}, {65, false, []uint64{9, top | 2, 1}}, {127, true, x},
		{128, true, x}, {129, false, []uint64{9, top, 3}}, {190, false, []uint64{9, top, 1<<62 | 1}}, {191, false, []uint64{9, top, top | 1}},
		{192, false, x}, {193, false, x}, {256, false, x}, {1 << 32, false, x}, {1 << 62, false, x}, {most - 63, false, x}, {most, false, x},
	} {
		if got := vec.Get(x, c.i); got != c.is {
			t.Errorf("P5.1: Get(%x, %d): %v", x, c.i, got)
		}
		if got := vec.Set(x, c.i); !slices.Equal(got, c.set) {
			t.Errorf("P5.1: Set(%x, %d): %x", x, c.i, got)
		}
	}
	for _, x := range [][]uint64{nil, {}} {
		for _, i := range []int{least, -1, 0, 1, 63, 64, most} {
			if vec.Get(x, i) || len(vec.Set(x, i)) != 0 {
				t.Errorf("P5.1: bit %d of no words", i)
			}
		}
	}
}

// P5.1: every bit of a vector, and those just before and behind it, which the
// spare capacity of the list does not have either.
func TestEveryBit(t *testing.T) {
	for _, all := range [][]uint64{{0, 0, 0, 0}, {ones, ones, ones, ones}, {0xaaaaaaaaaaaaaaaa, 0x123456789, ones - 1, 77}} {
		for words := range 4 {
			x := all[:words]
			for i := -130; i <= 64*words+130; i++ {
				in := i >= 0 && i < 64*words
				if got := vec.Get(x, i); got != (in && bit(x, i)) {
					t.Fatalf("P5.1: Get(%x, %d): %v", x, i, got)
				}
				want := pack(words, func(k int) bool { return k == i || bit(x, k) })
				if got := vec.Set(x, i); !slices.Equal(got, want) {
					t.Fatalf("P5.1: Set(%x, %d): %x", x, i, got)
				}
			}
		}
	}
}

// P5.1 and P5.2: vectors of as many words as a list can have. Widths are
// bounded by MaxTokens bits, these are not.
func TestLongVectors(t *testing.T) {
	x := repeat(ones, limit)
	x[limit-1] = 4
	z := vec.Add(x, []uint64{1})
	want := make([]uint64, limit)
	want[limit-1] = 5
	if !slices.Equal(z, want) {
		t.Errorf("P5.1: Add: a carry through MaxTokens words")
	}
	if !slices.Equal(vec.Sub(z, []uint64{1}), x) {
		t.Errorf("P5.2: Sub: a borrow through MaxTokens words")
	}
	if z := vec.And(x, repeat(6, limit)); len(z) != limit || z[0] != 6 || z[limit-1] != 4 {
		t.Errorf("P5.1: And of MaxTokens words")
	}
	if z := vec.Or([]uint64{0, 6}, want); len(z) != limit || z[0] != 0 || z[1] != 6 || z[limit-1] != 5 {
		t.Errorf("P5.1: Or of MaxTokens words")
	}
	last := 64*limit - 1
	z = vec.Set(want, last)
	if len(z) != limit || z[limit-1] != top|5 || !vec.Get(z, last) || vec.Get(want, last) {
		t.Errorf("P5.1: Set and Get at the last bit of MaxTokens words")
	}
	if vec.Get(z, last+1) || !slices.Equal(vec.Set(z, last+1), z) {
		t.Errorf("P5.1: Set and Get behind the last bit of MaxTokens words")
	}
	if n := vec.Count(x, most); n != limit {
		t.Errorf("P5.1: Count of MaxTokens words: %d", n)
	}
}

// R1: above the limit a call still ends without a panic.
func TestNoPanic(t *testing.T) {
	long := repeat(ones, limit+1)
	for _, y := range [][]uint64{nil, {1}, long} {
		vec.Add(long, y)
		vec.Add(y, long)
		vec.Sub(long, y)
		vec.Sub(y, long)
		vec.And(long, y)
		vec.And(y, long)
		vec.Or(long, y)
		vec.Or(y, long)
	}
	for _, n := range []int{least, -1, 0, 1, 64, limit, limit + 1, 64 * limit, 64*limit + 64, most} {
		vec.Fit(long, n)
		vec.Not(long, n)
		vec.Count(long, n)
		vec.Get(long, n)
		vec.Set(long, n)
	}
}

// calls returns each result that is a vector, of calls with x and y; in some
// of them nothing is to be changed.
func calls(x, y []uint64) [][]uint64 {
	all := [][]uint64{vec.Add(x, y), vec.Sub(x, y), vec.And(x, y), vec.Or(x, y), vec.Add(x, nil), vec.Sub(x, nil), vec.Or(nil, x), vec.Or(x, x), vec.And(x, x)}
	for _, n := range []int{-1, 0, 1, 63, 64, 65, 100, 128, 64 * len(x), 64*len(x) + 1, 300, 320} {
		all = append(all, vec.Ones(n), vec.Fit(x, n), vec.Not(x, n), vec.Set(x, n), vec.Set(x, n-1))
	}
	return all
}

// R4: no call modifies an argument or its spare capacity, and no result
// shares memory with an argument or with another result.
func TestMemory(t *testing.T) {
	first := []uint64{ones, 0, 0x0123456789abcdef, top, 5}
	second := []uint64{1, ones, 3, 0xfedcba9876543210, 6}
	for k := range 5 {
		for l := range 5 {
			x, y := slices.Clone(first), slices.Clone(second)
			// What is wanted comes from vectors without spare capacity: its
			// words are no part of a vector.
			got, want := calls(x[:k], y[:l]), calls(first[:k:k], second[:l:l])
			for _, i := range []int{-1, 0, 64*k - 1, 64 * k} {
				vec.Get(x[:k], i)
				vec.Count(x[:k], i)
			}
			if !slices.Equal(x, first) || !slices.Equal(y, second) {
				t.Fatalf("R4: an argument was modified: %x, %x", x, y)
			}
			fill(x, 7)
			fill(y, 8)
			for i, z := range got {
				if !slices.Equal(z, want[i]) {
					t.Fatalf("R4: result %d of %d and %d words changes with an argument: %x", i, k, l, z)
				}
			}
			for i, z := range got {
				if !slices.Equal(z, want[i]) {
					t.Fatalf("R4: result %d of %d and %d words changes with another one: %x", i, k, l, z)
				}
				fill(z, 9)
			}
			if !slices.Equal(x, repeat(7, 5)) || !slices.Equal(y, repeat(8, 5)) {
				t.Fatalf("R4: an argument changes with a result: %x, %x", x, y)
			}
		}
	}
}
