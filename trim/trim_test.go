package trim_test

import (
	"math"
	"math/rand"
	"slices"
	"testing"

	"tatting/api"
	"tatting/trim"
)

// lists calls use with every list of up to length numbers from 0 to kinds-1.
func lists(kinds, length int, use func([]int)) {
	last := [][]int{nil}
	use(nil)
	for range length {
		var next [][]int
		for _, l := range last {
			for k := range kinds {
				next = append(next, append(slices.Clone(l), k))
			}
		}
		for _, l := range next {
			use(l)
		}
		last = next
	}
}

// ends says by the words of the chapter what Of returns: the greatest lengths
// whose beginnings, and then whose ends behind them, are equal.
func ends(a, b []int) (p, s int) {
	for k := range min(len(a), len(b)) + 1 {
		if slices.Equal(a[:k], b[:k]) {
			p = k
		}
	}
	a, b = a[p:], b[p:]
	for k := range min(len(a), len(b)) + 1 {
		if slices.Equal(a[len(a)-k:], b[len(b)-k:]) {
			s = k
		}
	}
	return p, s
}

// good tells by the words of chapter 7 whether a list of pairs is valid.
func good(a, b []int, l []api.Pair) bool {
	i, j := -1, -1
	for _, c := range l {
		if c.I <= i || c.I >= len(a) || c.J <= j || c.J >= len(b) || a[c.I] != b[c.J] {
			return false
		}
		i, j = c.I, c.J
	}
	return true
}

// longest returns a valid list of pairs that has as many as there can be.
func longest(a, b []int) []api.Pair {
	if len(a) == 0 || len(b) == 0 {
		return nil
	}
	t := make([][]int, len(a)+1)
	for i := range t {
		t[i] = make([]int, len(b)+1)
	}
	for i := len(a) - 1; i >= 0; i-- {
		for j := len(b) - 1; j >= 0; j-- {
			t[i][j] = max(t[i+1][j], t[i][j+1])
			if a[i] == b[j] {
				t[i][j] = t[i+1][j+1] + 1
			}
		}
	}
	var l []api.Pair
	for i, j := 0, 0; i < len(a) && j < len(b); {
		switch {
		case a[i] == b[j]:
			l = append(l, api.Pair{I: i, J: j})
			i, j = i+1, j+1
		case t[i+1][j] >= t[i][j+1]:
			i++
		default:
			j++
		}
	}
	return l
}

// pairs makes a list of pairs from their numbers in order.
func pairs(n ...int) []api.Pair {
	var l []api.Pair
	for k := 0; k+1 < len(n); k += 2 {
		l = append(l, api.Pair{I: n[k], J: n[k+1]})
	}
	return l
}

// P3.1
func TestOfAndMid(t *testing.T) {
	const least, most = math.MinInt, math.MaxInt
	for _, c := range []struct {
		a, b []int
		p, s int
		x, y []int
	}{
		{nil, nil, 0, 0, nil, nil},
		{[]int{}, nil, 0, 0, nil, nil},
		{[]int{1, 2, 3, 9}, []int{1, 2, 5, 6, 9}, 2, 1, []int{3}, []int{5, 6}},
		{[]int{1, 2, 5, 6, 9}, []int{1, 2, 3, 9}, 2, 1, []int{5, 6}, []int{3}},

		{[]int{4}, nil, 0, 0, []int{4}, nil},
		{nil, []int{4, 5}, 0, 0, nil, []int{4, 5}},
		{[]int{4}, []int{5}, 0, 0, []int{4}, []int{5}},
		{[]int{4, 5}, []int{5, 4}, 0, 0, []int{4, 5}, []int{5, 4}},

		// Equal lists are a prefix, and nothing is left for a suffix.
		{[]int{4}, []int{4}, 1, 0, nil, nil},
		{[]int{4, 5, 4}, []int{4, 5, 4}, 3, 0, nil, nil},

		// One list is the beginning of the other one, or its end, or both.
		{[]int{1, 2}, []int{1, 2, 3}, 2, 0, nil, []int{3}},
		{[]int{1, 2, 3}, []int{1, 2}, 2, 0, []int{3}, nil},
		{[]int{2, 3}, []int{1, 2, 3}, 0, 2, nil, []int{1}},
		{[]int{1, 2, 3}, []int{2, 3}, 0, 2, []int{1}, nil},
		{[]int{1}, []int{1, 2, 1}, 1, 0, nil, []int{2, 1}},
		{[]int{1, 2, 1}, []int{1}, 1, 0, []int{2, 1}, nil},

		// A prefix and a suffix that could overlap.
		{[]int{7, 7}, []int{7, 7, 7}, 2, 0, nil, []int{7}},
		{[]int{7, 7, 7}, []int{7, 7}, 2, 0, []int{7}, nil},
		{[]int{7, 7, 7}, []int{7, 7, 8, 7, 7}, 2, 1, nil, []int{8, 7}},
		{[]int{7, 7, 8, 7, 7}, []int{7, 7, 7}, 2, 1, []int{8, 7}, nil},
		{[]int{1, 2, 1}, []int{1, 2, 1, 2, 1}, 3, 0, nil, []int{2, 1}},
		{[]int{1, 2, 3}, []int{1, 2, 2, 3}, 2, 1, nil, []int{2}},

		// Only a prefix, only a suffix, and equal numbers in the middle.
		{[]int{1, 2, 3}, []int{1, 2, 4}, 2, 0, []int{3}, []int{4}},
		{[]int{3, 1, 2}, []int{4, 1, 2}, 0, 2, []int{3}, []int{4}},
		{[]int{1, 5, 3, 6, 2}, []int{1, 6, 3, 5, 2}, 1, 1, []int{5, 3, 6}, []int{6, 3, 5}},

		// Numbers of any size.
		{[]int{least, 0, most}, []int{least, -1, 1, most}, 1, 1, []int{0}, []int{-1, 1}},
		{[]int{most}, []int{least}, 0, 0, []int{most}, []int{least}},
		{[]int{-1, 1 << 40}, []int{-1, 1<<40 + 1<<32}, 1, 0, []int{1 << 40}, []int{1<<40 + 1<<32}},
		{[]int{1 << 40, -1}, []int{1<<40 + 1<<32, -1}, 0, 1, []int{1 << 40}, []int{1<<40 + 1<<32}},
	} {
		if p, s := trim.Of(c.a, c.b); p != c.p || s != c.s {
			t.Errorf("P3.1: Of(%d, %d): %d, %d", c.a, c.b, p, s)
		}
		if x, y := trim.Mid(c.a, c.b); !slices.Equal(x, c.x) || !slices.Equal(y, c.y) {
			t.Errorf("P3.1: Mid(%d, %d): %d, %d", c.a, c.b, x, y)
		}
	}
}

// P3.1
func TestGrow(t *testing.T) {
	for _, c := range []struct {
		l          []api.Pair
		p, s, n, m int
		want       []api.Pair
	}{
		{nil, 0, 0, 0, 0, nil},
		{[]api.Pair{}, 0, 0, 3, 2, nil},
		{pairs(0, 1), 2, 1, 4, 6, pairs(0, 0, 1, 1, 2, 3, 3, 5)},
		{nil, 1, 2, 4, 5, pairs(0, 0, 2, 3, 3, 4)},
		{nil, 3, 0, 3, 3, pairs(0, 0, 1, 1, 2, 2)},
		{nil, 3, 0, 4, 5, pairs(0, 0, 1, 1, 2, 2)},
		{nil, 0, 3, 3, 3, pairs(0, 0, 1, 1, 2, 2)},
		{nil, 0, 2, 2, 5, pairs(0, 3, 1, 4)},
		{nil, 0, 2, 5, 2, pairs(3, 0, 4, 1)},
		{nil, 1, 1, 2, 3, pairs(0, 0, 1, 2)},
		{nil, 1, 1, 3, 2, pairs(0, 0, 2, 1)},
		{pairs(0, 0, 2, 1), 0, 0, 3, 2, pairs(0, 0, 2, 1)},
		{pairs(0, 0, 2, 1), 4, 0, 7, 6, pairs(0, 0, 1, 1, 2, 2, 3, 3, 4, 4, 6, 5)},
		{pairs(0, 0, 2, 1), 0, 1, 4, 3, pairs(0, 0, 2, 1, 3, 2)},

		// The last place of each middle part is within it.
		{pairs(6, 0), 1, 1, 9, 3, pairs(0, 0, 7, 1, 8, 2)},
		{pairs(0, 6), 1, 1, 3, 9, pairs(0, 0, 1, 7, 2, 8)},

		// A list of pairs is converted whether or not it is valid.
		{pairs(1, 1, 0, 0, 1, 1), 1, 1, 4, 4, pairs(0, 0, 2, 2, 1, 1, 2, 2, 3, 3)},
	} {
		got, e := trim.Grow(c.l, c.p, c.s, c.n, c.m)
		if e != api.OK || !slices.Equal(got, c.want) {
			t.Errorf("P3.1: Grow(%v, %d, %d, %d, %d): %v, %d", c.l, c.p, c.s, c.n, c.m, got, e)
		}
	}
}

// P3.1: every two middle parts with every pair in and about them.
func TestGrowOfOnePair(t *testing.T) {
	for code := range 3 * 3 * 4 * 4 {
		p, s, x, y := code%3, code/3%3, code/9%4, code/36
		n, m := p+x+s, p+y+s
		for i := -1; i <= x; i++ {
			for j := -1; j <= y; j++ {
				got, e := trim.Grow(pairs(i, j), p, s, n, m)
				if i < 0 || i >= x || j < 0 || j >= y {
					if e != api.EARG || len(got) != 0 {
						t.Errorf("P3.1: Grow((%d, %d), %d, %d, %d, %d): %v, %d", i, j, p, s, n, m, got, e)
					}
					continue
				}
				var want []api.Pair
				for k := range p {
					want = append(want, api.Pair{I: k, J: k})
				}
				want = append(want, api.Pair{I: p + i, J: p + j})
				for k := s; k > 0; k-- {
					want = append(want, api.Pair{I: n - k, J: m - k})
				}
				if e != api.OK || !slices.Equal(got, want) {
					t.Errorf("P3.1: Grow((%d, %d), %d, %d, %d, %d): %v, %d", i, j, p, s, n, m, got, e)
				}
			}
		}
	}
}

// P3.1 and R2: wrong numbers, and nothing beside the error.
func TestGrowOfWrongNumbers(t *testing.T) {
	const least, most, limit = math.MinInt, math.MaxInt, api.MaxTokens
	for _, c := range [][4]int{
		{-1, 0, 3, 3}, {0, -1, 3, 3}, {0, 0, -1, 3}, {0, 0, 3, -1}, {-1, -1, -1, -1},
		{-1, 1, 3, 3}, {1, -1, 3, 3}, {-2, 1, 0, 0}, {1, -2, 0, 0},
		{least, 0, 3, 3}, {0, least, 3, 3}, {0, 0, least, 3}, {0, 0, 3, least},
		{least, least, 3, 3}, {least, most, 3, 3}, {most, least, 3, 3}, {least, least, least, least},
		{0, most, least, 3}, {0, most, 3, least}, {most, 0, least, least}, {0, 2, least, least},

		{0, 0, limit + 1, 3}, {0, 0, 3, limit + 1}, {0, 0, limit + 1, limit + 1}, {1, 1, limit + 1, limit + 1},
		{0, 0, most, 3}, {0, 0, 3, most}, {0, 0, most, most}, {most, 0, most, most}, {0, most, most, most},
		{0, 0, 1<<32 + 3, 3}, {0, 0, 3, 1<<32 + 3},

		{1, 0, 0, 0}, {0, 1, 0, 0}, {4, 0, 3, 9}, {4, 0, 9, 3}, {0, 4, 3, 9}, {0, 4, 9, 3},
		{2, 2, 3, 9}, {2, 2, 9, 3}, {2, 2, 3, 3}, {limit, 1, limit, limit}, {1, limit, limit, limit},

		// Sums that do not fit.
		{most, 1, 3, 3}, {1, most, 3, 3}, {most, most, 3, 3}, {most, most, 0, 0}, {most, 2, limit, limit},
		{1 << 62, 1 << 62, 3, 3}, {1 << 62, 1<<62 + 2, limit, limit}, {1 << 31, 1 << 31, 3, 3}, {1 << 32, 0, 3, 3}, {0, 1 << 32, 3, 3},
	} {
		for _, l := range [][]api.Pair{nil, pairs(0, 0)} {
			if got, e := trim.Grow(l, c[0], c[1], c[2], c[3]); e != api.EARG || len(got) != 0 {
				t.Errorf("P3.1: Grow(%v, %d): %d pairs, %d", l, c, len(got), e)
			}
		}
	}
}

// P3.1 and R2: one pair outside the middle parts is enough, wherever it
// stands in the list.
func TestGrowOfWrongPairs(t *testing.T) {
	const least, most = math.MinInt, math.MaxInt
	for _, bad := range []api.Pair{
		{I: -1, J: 0}, {I: 0, J: -1}, {I: -1, J: -1}, {I: 2, J: 0}, {I: 0, J: 3}, {I: 2, J: 3}, {I: 3, J: 0}, {I: 0, J: 4},
		{I: least, J: 0}, {I: 0, J: least}, {I: most, J: 0}, {I: 0, J: most}, {I: most, J: most}, {I: least, J: most},
		{I: 1 << 32, J: 0}, {I: 0, J: 1 << 32},
	} {
		for at := range 3 {
			l := slices.Insert(pairs(0, 0, 1, 2), at, bad)
			if got, e := trim.Grow(l, 3, 4, 9, 10); e != api.EARG || len(got) != 0 {
				t.Errorf("P3.1: Grow(%v, 3, 4, 9, 10): %v, %d", l, got, e)
			}
		}
	}
	// No pair is within a middle part that is empty.
	for _, c := range [][4]int{{0, 0, 0, 0}, {0, 0, 0, 3}, {0, 0, 3, 0}, {1, 2, 3, 5}, {1, 2, 5, 3}, {3, 0, 3, 3}} {
		if got, e := trim.Grow(pairs(0, 0), c[0], c[1], c[2], c[3]); e != api.EARG || len(got) != 0 {
			t.Errorf("P3.1: Grow of a pair, %d: %v, %d", c, got, e)
		}
	}
}

// checkTwo holds what the package answers of two lists against the words of
// P3.1 and P3.2.
func checkTwo(t *testing.T, a, b []int) {
	t.Helper()
	p, s := trim.Of(a, b)
	if wantP, wantS := ends(a, b); p != wantP || s != wantS {
		t.Fatalf("P3.1: Of(%d, %d): %d, %d", a, b, p, s)
	}
	x, y := trim.Mid(a, b)
	if !slices.Equal(x, a[p:len(a)-s]) || !slices.Equal(y, b[p:len(b)-s]) {
		t.Fatalf("P3.1: Mid(%d, %d): %d, %d", a, b, x, y)
	}
	middle := longest(x, y)
	if whole := len(longest(a, b)); whole != p+s+len(middle) {
		t.Fatalf("P3.2: %d and %d: %d pairs, not %d and %d and %d", a, b, whole, p, s, len(middle))
	}
	for k := range len(middle) + 1 {
		for _, l := range [][]api.Pair{middle[:k], middle[k:]} {
			got, e := trim.Grow(l, p, s, len(a), len(b))
			if e != api.OK || len(got) != p+len(l)+s || !good(a, b, got) {
				t.Fatalf("P3.2: Grow(%v, %d, %d) for %d and %d: %v, %d", l, p, s, a, b, got, e)
			}
		}
	}
}

// P3.1 and P3.2: every two short lists.
func TestShortLists(t *testing.T) {
	lists(2, 6, func(a []int) {
		lists(2, 6, func(b []int) {
			checkTwo(t, a, b)
		})
	})
	lists(3, 4, func(a []int) {
		lists(3, 4, func(b []int) {
			checkTwo(t, a, b)
		})
	})
}

// P3.1 and P3.2: longer lists, most of them alike at their ends.
func TestManyLists(t *testing.T) {
	r := rand.New(rand.NewSource(3))
	some := func(length, kinds int) []int {
		l := make([]int, r.Intn(length))
		for i := range l {
			l[i] = r.Intn(kinds) - kinds/2
		}
		return l
	}
	for range 1500 {
		kinds := 1 + r.Intn(6)
		front, back := some(20, kinds), some(20, kinds)
		checkTwo(t, slices.Concat(front, some(9, kinds), back), slices.Concat(front, some(9, kinds), back))
	}
}

// P3.1 at the limit: lists that differ at one place only.
func TestManyNumbers(t *testing.T) {
	a := make([]int, api.MaxTokens)
	for i := range a {
		a[i] = i % 7
	}
	for _, at := range []int{0, 1, 1000, api.MaxTokens - 2, api.MaxTokens - 1} {
		b := slices.Clone(a)
		b[at] = -1
		p, s := trim.Of(a, b)
		x, y := trim.Mid(a, b)
		if p != at || s != api.MaxTokens-at-1 || !slices.Equal(x, a[at:at+1]) || !slices.Equal(y, []int{-1}) {
			t.Errorf("P3.1: lists that differ at %d: %d, %d; %d, %d", at, p, s, len(x), len(y))
		}
		l, e := trim.Grow(nil, p, s, len(a), len(b))
		if e != api.OK || len(l) != api.MaxTokens-1 || !good(a, b, l) {
			t.Errorf("P3.2: lists that differ at %d: %d pairs, %d", at, len(l), e)
		}
	}
}

// P3.1 at the limit: as many pairs as there can be, and a suffix as long.
func TestManyPairs(t *testing.T) {
	const limit = api.MaxTokens
	l := make([]api.Pair, limit)
	for i := range l {
		l[i] = api.Pair{I: i, J: i}
	}
	for _, c := range []struct {
		k, p, s int
	}{{limit, 0, 0}, {0, limit, 0}, {0, 0, limit}, {limit - 3, 1, 2}} {
		got, e := trim.Grow(l[:c.k], c.p, c.s, limit, limit)
		if e != api.OK || !slices.Equal(got, l) {
			t.Errorf("P3.1: Grow at the limit: %d pairs, %d", len(got), e)
		}
	}
	if got, e := trim.Grow(nil, 0, 0, limit, 0); e != api.OK || len(got) != 0 {
		t.Errorf("P3.1: Grow of no pairs at the limit: %d pairs, %d", len(got), e)
	}
	if got, e := trim.Grow(nil, 0, 1, 1, limit); e != api.OK || !slices.Equal(got, pairs(0, limit-1)) {
		t.Errorf("P3.1: Grow at the limit: %v, %d", got, e)
	}
}

// R1: above the limit a call still ends without a panic.
func TestNoPanic(t *testing.T) {
	a := make([]int, api.MaxTokens+1)
	trim.Of(a, a)
	trim.Mid(a, a[1:])
	trim.Mid(nil, a)
	l := make([]api.Pair, api.MaxTokens+1)
	trim.Grow(l, 0, 0, 1, 1)
	trim.Grow(l, 1, 1, api.MaxTokens, api.MaxTokens)
	trim.Grow(l, 0, 0, 0, 0)
}

// R4: no call modifies an argument or its spare capacity.
func TestArgumentsStay(t *testing.T) {
	a := []int{1, 2, 3, 4, 9, 77, 78}
	b := []int{1, 2, 5, 9, 79, 80}
	l := pairs(0, 0, 1, 0, 8, 9, 8, 9)
	keptA, keptB, keptL := slices.Clone(a), slices.Clone(b), slices.Clone(l)
	for _, c := range [][2]int{{5, 4}, {0, 0}, {2, 2}, {2, 3}, {5, 0}, {1, 1}} {
		trim.Of(a[:c[0]], b[:c[1]])
		trim.Mid(a[:c[0]], b[:c[1]])
		trim.Mid(a[:c[0]], a[:c[1]])
	}
	trim.Grow(l[:2], 0, 0, 2, 1)
	trim.Grow(l[:2], 2, 1, 5, 4)
	trim.Grow(l[:0], 2, 1, 5, 4)
	trim.Grow(l[:2], 2, 1, 4, 4)
	trim.Grow(l[:3], 2, 1, 5, 4)
	if !slices.Equal(a, keptA) || !slices.Equal(b, keptB) || !slices.Equal(l, keptL) {
		t.Errorf("R4: a list was modified: %d, %d, %v", a, b, l)
	}
}

// fill overwrites a list and its spare capacity.
func fill[T any](l []T, with T) {
	l = l[:cap(l)]
	for i := range l {
		l[i] = with
	}
}

// R4: middle parts share memory neither with an argument nor with each other,
// also where nothing was removed or nothing is left.
func TestMiddlesAreNew(t *testing.T) {
	for _, c := range []struct{ a, b []int }{
		{[]int{1, 2, 3, 9}, []int{1, 5, 6, 9}},
		{[]int{1, 2}, []int{3, 4}},
		{[]int{1, 2, 9}, []int{1, 9}},
		{[]int{1, 9}, []int{1, 2, 9}},
		{[]int{1, 2}, nil},
		{nil, []int{1, 2}},
		{[]int{1, 2}, []int{1, 2}},
	} {
		a, b := slices.Clone(c.a), slices.Clone(c.b)
		x, y := trim.Mid(a, b)
		keptX, keptY := slices.Clone(x), slices.Clone(y)
		fill(x, -7)
		if !slices.Equal(y, keptY) || !slices.Equal(a, c.a) || !slices.Equal(b, c.b) {
			t.Errorf("R4: Mid(%d, %d): the first result shares memory", c.a, c.b)
		}
		x, y = trim.Mid(a, b)
		fill(y, -7)
		if !slices.Equal(x, keptX) || !slices.Equal(a, c.a) || !slices.Equal(b, c.b) {
			t.Errorf("R4: Mid(%d, %d): the second result shares memory", c.a, c.b)
		}
		x, y = trim.Mid(a, b)
		fill(a, -7)
		fill(b, -7)
		if !slices.Equal(x, keptX) || !slices.Equal(y, keptY) {
			t.Errorf("R4: Mid(%d, %d): the results change with the lists", c.a, c.b)
		}
	}
}

// R4: two pieces of one list are two arguments like any others.
func TestMiddlesOfOneList(t *testing.T) {
	whole := []int{1, 2, 3, 4}
	x, y := trim.Mid(whole[:3], whole[1:])
	fill(x, -7)
	if !slices.Equal(y, []int{2, 3, 4}) || !slices.Equal(whole, []int{1, 2, 3, 4}) {
		t.Errorf("R4: middles of one list share memory: %d, %d", y, whole)
	}
}

// R4: what Grow returns is new, also where it is the list that was given.
func TestGrownPairsAreNew(t *testing.T) {
	for _, c := range []struct{ p, s int }{{0, 0}, {2, 0}, {0, 2}, {1, 1}} {
		l := append(make([]api.Pair, 0, 16), pairs(0, 0, 1, 2)...)
		n, m := c.p+2+c.s, c.p+3+c.s
		first, e := trim.Grow(l, c.p, c.s, n, m)
		second, f := trim.Grow(l, c.p, c.s, n, m)
		if e != api.OK || f != api.OK {
			t.Fatalf("P3.1: Grow: %d, %d", e, f)
		}
		kept := slices.Clone(second)
		fill(first, api.Pair{I: -7, J: -7})
		if !slices.Equal(l, pairs(0, 0, 1, 2)) || !slices.Equal(second, kept) {
			t.Errorf("R4: grown pairs share memory: %v, %v", l, second)
		}
		fill(l, api.Pair{I: -8, J: -8})
		if !slices.Equal(second, kept) {
			t.Errorf("R4: grown pairs change with the list: %v", second)
		}
	}
}
