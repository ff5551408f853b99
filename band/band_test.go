package band_test

import (
	"fmt"
	"math"
	"math/rand"
	"slices"
	"sync"
	"testing"

	"tatting/api"
	"tatting/band"
	"tatting/grid"
	"tatting/pairs"
)

const (
	lowest  = math.MinInt
	highest = math.MaxInt
	limit   = api.MaxTokens
)

// wide has numbers at the ends of the range of an int, about 0 and where fewer
// bits end.
var wide = []int{lowest, lowest + 1, -1 << 32, -1<<31 - 1, -7, -1, 0, 1, 1 << 31, 1<<32 + 1, highest - 1, highest}

// defined follows the definition of L in chapter 8.
func defined(a, b []int) int {
	if len(a) == 0 || len(b) == 0 {
		return 0
	}
	if a[0] == b[0] {
		return 1 + defined(a[1:], b[1:])
	}
	return max(defined(a[1:], b), defined(a, b[1:]))
}

// common returns L of a and b, by the textbook.
func common(a, b []int) int {
	t := make([]int, len(b)+1)
	for _, x := range a {
		next := make([]int, len(b)+1)
		for j, y := range b {
			if next[j+1] = max(next[j], t[j+1]); x == y {
				next[j+1] = t[j] + 1
			}
		}
		t = next
	}
	return t[len(b)]
}

// apart returns the absolute difference of two lengths.
func apart(n, m int) int {
	return max(n-m, m-n)
}

// tally counts the points of the table one by one: number k of it is Cells of n,
// m and k, up to their sum.
func tally(n, m int) []int64 {
	t := make([]int64, n+m+1)
	for i := range n + 1 {
		for j := range m + 1 {
			t[max(i-j, j-i)+max(n-i-(m-j), m-j-(n-i))]++
		}
	}
	for k := range n + m {
		t[k+1] += t[k]
	}
	return t
}

// cells returns Cells of k, any number, by the tally of both lengths.
func cells(tally []int64, k int) int64 {
	if k < 0 {
		return 0
	}
	return tally[min(k, len(tally)-1)]
}

// bounds are the ones that P19.1 lets Run try for lists of n and m numbers with
// distance d.
func bounds(n, m, d int) []int {
	l := []int{apart(n, m)}
	for l[len(l)-1] < d {
		l = append(l, 2*l[len(l)-1]+1)
	}
	return l
}

// answer is what P19.1 asks for two lists: their distance, the number of steps
// of Run, and Cells of their lengths for every bound up to their sum.
type answer struct {
	d     int
	steps int64
	tally []int64
}

// worked returns the answer for a and b, which have l numbers in common.
func worked(l int, a, b []int) answer {
	n, m := len(a), len(b)
	w := answer{d: n + m - 2*l, tally: tally(n, m)}
	for _, k := range bounds(n, m, w.d) {
		w.steps += cells(w.tally, k)
	}
	return w
}

// ends are bounds at the ends of the range of an int, and where fewer bits end.
var ends = []int{lowest, lowest + 1, -1 << 32, -1 << 31, -2, -1, 1<<31 - 1, 1 << 31, 1 << 32, 1 << 62, highest - 1, highest}

// fault tells what answers otherwise than it should, or nothing.
func (w answer) fault(a, b []int) string {
	for k := range len(w.tally) + 3 {
		if f := w.within(a, b, k, cells(w.tally, k)); f != "" {
			return f
		}
		if n := band.Cells(len(a), len(b), k); n != cells(w.tally, k) {
			return fmt.Sprintf("Cells(%d, %d, %d): %d, not %d", len(a), len(b), k, n, cells(w.tally, k))
		}
	}
	for _, k := range ends {
		if f := w.within(a, b, k, cells(w.tally, k)); f != "" {
			return f
		}
	}
	return w.run(a, b)
}

// within tells what Within answers otherwise than it should for bound k, for
// which Cells is told, or nothing.
func (w answer) within(a, b []int, k int, cells int64) string {
	d, steps, e := band.Within(a, b, k)
	wantD, wantSteps, wantE := w.d, cells, api.OK
	switch {
	case k < 0:
		wantD, wantSteps, wantE = 0, 0, api.EARG
	case k < w.d:
		wantD, wantSteps, wantE = 0, 0, api.EEXCEEDS
	}
	if d != wantD || steps != wantSteps || e != wantE {
		return fmt.Sprintf("Within at %d: %d, %d, %d, not %d, %d, %d", k, d, steps, e, wantD, wantSteps, wantE)
	}
	return ""
}

// run tells what Run answers otherwise than it should, or nothing.
func (w answer) run(a, b []int) string {
	switch l, steps := band.Run(a, b); {
	case !pairs.Good(a, b, l):
		return "Run's list, which is not valid"
	case 2*len(l) != len(a)+len(b)-w.d:
		return fmt.Sprintf("Run: %d pairs for a distance of %d", len(l), w.d)
	case steps != w.steps:
		return fmt.Sprintf("Run's steps: %d, not %d", steps, w.steps)
	}
	return ""
}

// told writes two lists, unless they are long.
func told(a, b []int) string {
	if len(a)+len(b) > 200 {
		return fmt.Sprintf("%d and %d numbers", len(a), len(b))
	}
	return fmt.Sprintf("%d and %d", a, b)
}

// check holds Within at every bound, and Run, against w.
func (w answer) check(t *testing.T, a, b []int) {
	t.Helper()
	if f := w.fault(a, b); f != "" {
		t.Fatalf("P19.1: %s: %s", told(a, b), f)
	}
}

// checkTold holds both against a distance and a number of steps that are told.
func checkTold(t *testing.T, a, b []int, d int, steps int64) {
	t.Helper()
	answer{d: d, steps: steps, tally: tally(len(a), len(b))}.check(t, a, b)
}

// check holds both against an answer that is worked out here.
func check(t *testing.T, a, b []int) {
	t.Helper()
	worked(common(a, b), a, b).check(t, a, b)
}

// checkWithin holds Within at k against a distance, and Cells for that k, which
// are told.
func checkWithin(t *testing.T, a, b []int, k, d int, cells int64) {
	t.Helper()
	if f := (answer{d: d}).within(a, b, k, cells); f != "" {
		t.Fatalf("P19.1: %s: %s", told(a, b), f)
	}
}

// checkRun holds Run against a distance and a number of steps that are told.
func checkRun(t *testing.T, a, b []int, d int, steps int64) {
	t.Helper()
	if f := (answer{d: d, steps: steps}).run(a, b); f != "" {
		t.Fatalf("P19.1: %s: %s", told(a, b), f)
	}
}

// lists calls use with every list of up to length of the given elements.
func lists(elements []int, length int, use func([]int)) {
	last := [][]int{nil}
	use(nil)
	for range length {
		var next [][]int
		for _, l := range last {
			for _, e := range elements {
				next = append(next, append(slices.Clone(l), e))
			}
		}
		for _, l := range next {
			use(l)
		}
		last = next
	}
}

// two calls use with every two lists of up to length of the given elements.
func two(elements []int, length int, use func(a, b []int)) {
	lists(elements, length, func(a []int) {
		lists(elements, length, func(b []int) {
			use(a, b)
		})
	})
}

// some returns up to length numbers out of few, about 0.
func some(r *rand.Rand, length, kinds int) []int {
	l := make([]int, r.Intn(length+1))
	for i := range l {
		l[i] = r.Intn(kinds) - kinds/2
	}
	return l
}

// changed returns a copy of l with so many numbers put in, left out or
// replaced.
func changed(r *rand.Rand, l []int, times, kinds int) []int {
	l = slices.Clone(l)
	for range times {
		at := r.Intn(len(l) + 1)
		switch r.Intn(3) {
		case 0:
			l = slices.Insert(l, at, r.Intn(kinds)-kinds/2)
		case 1:
			l = slices.Delete(l, at, min(at+1, len(l)))
		default:
			if at < len(l) {
				l[at] = r.Intn(kinds) - kinds/2
			}
		}
	}
	return l
}

// counted returns n numbers from first on.
func counted(n, first int) []int {
	l := make([]int, n)
	for i := range l {
		l[i] = first + i
	}
	return l
}

// reversed returns a copy from its end to its beginning.
func reversed(l []int) []int {
	l = slices.Clone(l)
	slices.Reverse(l)
	return l
}

// fill overwrites a list and its spare capacity.
func fill[E any](l []E, with E) {
	l = l[:cap(l)]
	for i := range l {
		l[i] = with
	}
}

// roomy returns a copy of l with spare capacity, which holds a number of its
// own.
func roomy(l []int) []int {
	whole := slices.Repeat([]int{77}, len(l)+5)
	copy(whole, l)
	return whole[:len(l)]
}

// stayed reports whether a list that roomy made is as it was, with its spare
// capacity.
func stayed(l, was []int) bool {
	return slices.Equal(l[:cap(l)], roomy(was)[:len(was)+5])
}

// P19.1: the examples of the chapter.
func TestExamples(t *testing.T) {
	if d, steps, e := band.Within([]int{1, 2}, []int{2, 1}, 1); d != 0 || steps != 0 || e != api.EEXCEEDS {
		t.Errorf("P19.1: Within(1 2, 2 1, 1): %d, %d, %d", d, steps, e)
	}
	if n := band.Cells(2, 2, 0); n != 3 {
		t.Errorf("P19.1: Cells(2, 2, 0): %d", n)
	}
}

// checkCells holds Cells, for lists of both lengths either way round, against a
// number that is told.
func checkCells(t *testing.T, n, m, k int, want int64) {
	t.Helper()
	for _, l := range [][2]int{{n, m}, {m, n}} {
		if got := band.Cells(l[0], l[1], k); got != want {
			t.Errorf("P19.1: Cells(%d, %d, %d): %d, not %d", l[0], l[1], k, got, want)
		}
	}
}

// checkBound holds Cells against P19.2.
func checkBound(t *testing.T, n, m, k int) {
	t.Helper()
	if got, most := band.Cells(n, m, k), int64(k+1)*int64(min(n, m)+1); got > most {
		t.Errorf("P19.2: Cells(%d, %d, %d): %d, more than %d", n, m, k, got, most)
	}
}

// P19.1 and P19.2: Cells of few numbers, and beside its ranges.
func TestCells(t *testing.T) {
	for n := range 16 {
		for m := range 16 {
			counts := tally(n, m)
			for k := -4; k < n+m+5; k++ {
				checkCells(t, n, m, k, cells(counts, k))
				if k >= 0 {
					checkBound(t, n, m, k)
				}
			}
			for _, k := range ends {
				checkCells(t, n, m, k, cells(counts, k))
			}
			// As much as P19.2 allows.
			w := int64(apart(n, m))
			checkCells(t, n, m, int(w), (w+1)*int64(min(n, m)+1))
		}
	}
	for n := -4; n < 10; n++ {
		for m := -4; m < 0; m++ {
			for k := -10; k < 20; k++ {
				checkCells(t, n, m, k, 0)
			}
		}
	}
	for _, c := range [][2]int{{0, 300}, {1, 299}, {150, 151}, {200, 200}, {37, 230}} {
		counts := tally(c[0], c[1])
		for k := range counts {
			checkCells(t, c[0], c[1], k, counts[k])
			checkBound(t, c[0], c[1], k)
		}
	}
}

// P19.1 and P19.2: Cells at the limit and just above it. More than 32 bits can
// count.
func TestCellsAtTheLimit(t *testing.T) {
	const all = limit + 1
	for _, c := range []struct {
		n, m, k int
		want    int64
	}{
		{limit, limit, 0, all}, {limit, limit, 1, all}, {limit, limit, 2, all + 2*limit}, {limit, limit, 3, all + 2*limit}, {limit, limit, 4, all + 2*limit + 2*(limit-1)}, {limit, limit, limit, all*all - limit/2*(limit/2+1)},
		{limit, limit, 2 * limit, all * all}, {limit, limit, 2*limit + 1, all * all}, {limit, limit, highest, all * all}, {limit, limit, 2*limit - 1, all*all - 2}, {limit, limit, 2*limit - 2, all*all - 2}, {limit, limit, 2*limit - 3, all*all - 6}, {limit, limit, 2*limit - 4, all*all - 6},
		{limit, limit - 1, 0, 0}, {limit, limit - 1, 1, 2 * limit}, {limit, limit - 1, 2, 2 * limit}, {limit, limit - 1, 3, 2*limit + 2*(limit-1)}, {limit, limit - 1, 2*limit - 1, all * limit}, {limit, limit - 1, 2*limit - 2, all*limit - 2}, {limit, limit - 1, highest, all * limit},
		{limit, 0, limit, all}, {limit, 0, limit - 1, 0}, {limit, 0, limit + 1, all}, {limit, 0, highest, all}, {limit, 1, limit - 2, 0}, {limit, 1, limit - 1, 2 * limit}, {limit, 1, limit, 2 * limit}, {limit, 1, limit + 1, 2 * all},
		{limit, 5, limit - 6, 0}, {limit, 5, limit - 5, 6 * (limit - 4)}, {limit, 5, limit - 3, 6*(limit-4) + 10}, {limit, 5, limit + 5, 6 * all}, {limit, 5, limit + 4, 6*all - 2}, {limit, 5, limit + 3, 6*all - 2}, {limit, 5, limit + 2, 6*all - 6}, {limit, 5, highest, 6 * all},
		{limit, limit / 2, limit/2 - 1, 0}, {limit, limit / 2, limit / 2, (limit/2 + 1) * (limit/2 + 1)}, {limit, limit / 2, limit + limit/2, all * (limit/2 + 1)}, {limit, limit / 2, highest - 1, all * (limit/2 + 1)},

		{limit + 1, 0, limit + 1, 0}, {limit + 1, 0, highest, 0}, {limit + 1, limit, 1, 0}, {limit + 1, limit, highest, 0}, {limit + 1, limit + 1, 0, 0}, {limit + 1, limit + 1, highest, 0}, {limit + 1, 5, 2 * limit, 0}, {limit + 2, limit + 2, 7, 0},
		{-1, 0, 1, 0}, {-1, -1, 0, 0}, {-1, -1, 5, 0}, {-1, limit, highest, 0}, {-1, limit + 1, highest, 0}, {-1, 2, 3, 0}, {-1, 2, 5, 0}, {limit, limit, -1, 0}, {limit, 0, -1, 0}, {0, 0, -1, 0}, {0, 0, 0, 1}, {0, 0, highest, 1}, {limit, limit, lowest, 0},
	} {
		checkCells(t, c.n, c.m, c.k, c.want)
		if c.n >= 0 && c.m >= 0 && c.k >= 0 && c.k <= 2*limit+1 {
			checkBound(t, c.n, c.m, c.k)
		}
	}
	r := rand.New(rand.NewSource(190))
	for range 2000 {
		n, m := r.Intn(limit+1), r.Intn(limit+1)
		checkBound(t, n, m, r.Intn(n+m+1))
		checkBound(t, n, m, apart(n, m))
		checkBound(t, n, n, r.Intn(9))
	}
}

// P19.1: Cells at the ends of the range of an int, where the difference or the
// sum of n and m, or that of k and it, does not fit.
func TestCellsWide(t *testing.T) {
	in := []int{0, 1, 2, 5, 6, limit - 1, limit}
	out := []int{lowest, lowest + 1, lowest + 2, lowest + limit, -1 << 62, -1 << 32, -limit, -2, -1, limit + 1, 1 << 32, 1 << 62, highest - limit, highest - 2, highest - 1, highest}
	at := slices.Concat(in, out, []int{2 * limit, 2*limit + 1})
	for _, x := range out {
		for _, y := range slices.Concat(in, out) {
			for _, k := range append(at, x-y, y-x, x+y) {
				checkCells(t, x, y, k, 0)
			}
		}
	}
	for _, n := range in {
		for _, m := range in {
			for _, k := range at {
				switch {
				case k < apart(n, m):
					checkCells(t, n, m, k, 0)
				case k >= n+m:
					checkCells(t, n, m, k, int64(n+1)*int64(m+1))
				}
			}
		}
	}
}

// P19.1: the edges, told.
func TestEdges(t *testing.T) {
	for _, c := range []struct {
		a, b  []int
		d     int
		steps int64
	}{
		// One or both lists empty.
		{nil, nil, 0, 1}, {nil, []int{}, 0, 1}, {[]int{}, nil, 0, 1}, {[]int{}, []int{}, 0, 1},
		{nil, []int{4}, 1, 2}, {[]int{4}, nil, 1, 2}, {[]int{}, []int{0}, 1, 2}, {nil, []int{1, 2, 3}, 3, 4}, {[]int{0, 0, 0}, []int{}, 3, 4},

		// One number in one list or in both.
		{[]int{4}, []int{4}, 0, 2}, {[]int{0}, []int{0}, 0, 2}, {[]int{4}, []int{5}, 2, 2 + 2 + 4}, {[]int{-4}, []int{4}, 2, 2 + 2 + 4},
		{[]int{4}, []int{4, 5}, 1, 4}, {[]int{4}, []int{5, 4}, 1, 4}, {[]int{6, 4}, []int{5}, 3, 4 + 6}, {[]int{5}, []int{6, 4}, 3, 4 + 6}, {[]int{5, 5, 4}, []int{4}, 2, 6}, {[]int{4}, []int{5, 5, 5, 5}, 5, 8 + 10},

		// The same list twice: the first bound is the last one.
		{[]int{1, 2, 3}, []int{1, 2, 3}, 0, 4}, {[]int{5, 5}, []int{5, 5}, 0, 3},

		// Nothing alike, and the reverse: several bounds.
		{[]int{1, 2}, []int{3, 4}, 4, 3 + 3 + 7 + 9}, {[]int{1, 2}, []int{3, 4, 5}, 5, 6 + 10 + 12}, {[]int{3, 4, 5}, []int{-3, -4}, 5, 6 + 10 + 12}, {[]int{1, 2}, []int{2, 1}, 2, 3 + 3 + 7}, {[]int{1, 2, 3}, []int{4, 5, 6}, 6, 4 + 4 + 10 + 16}, {[]int{1, 2, 3}, []int{3, 2, 1}, 4, 4 + 4 + 10 + 16},

		// A short and b short, and lists of the same length.
		{[]int{1, 3}, []int{1, 2, 3}, 1, 6}, {[]int{1, 2, 3}, []int{1, 3}, 1, 6}, {[]int{1, 2, 3}, []int{3, 2}, 3, 6 + 10}, {[]int{1, 2, 3}, []int{1, 9, 3}, 2, 4 + 4 + 10}, {[]int{1, 2, 3}, []int{3, 1, 4}, 4, 4 + 4 + 10 + 16}, {[]int{3, 1, 4}, []int{1, 2, 3}, 4, 4 + 4 + 10 + 16},

		// The ends of the range.
		{[]int{lowest, highest}, []int{lowest, highest}, 0, 3}, {[]int{lowest, highest}, []int{highest, lowest}, 2, 3 + 3 + 7}, {[]int{lowest}, []int{highest}, 2, 2 + 2 + 4},
	} {
		worked(defined(c.a, c.b), c.a, c.b).check(t, c.a, c.b)
		checkTold(t, c.a, c.b, c.d, c.steps)
	}
}

// P19.1: which error comes first, and the bounds about the difference of the
// lengths and about the distance, told.
func TestBounds(t *testing.T) {
	same, other, turned := []int{1, 2, 3}, []int{4, 5, 6}, []int{2, 3, 1}
	for _, c := range []struct {
		a, b     []int
		k, d     int
		cells    int64
		expected api.Errno
	}{
		// A bound below 0 is below every distance too.
		{same, same, -1, 0, 0, api.EARG}, {same, other, -1, 0, 0, api.EARG}, {same, nil, lowest, 0, 0, api.EARG}, {nil, nil, -1, 0, 0, api.EARG}, {nil, same, -3, 0, 0, api.EARG},

		{same, same, 0, 0, 4, api.OK}, {nil, nil, 0, 0, 1, api.OK}, {same, other, 0, 0, 0, api.EEXCEEDS}, {same, nil, 0, 0, 0, api.EEXCEEDS}, {same, same[:2], 0, 0, 0, api.EEXCEEDS},

		{same, same[:1], 1, 0, 0, api.EEXCEEDS}, {same, same[:1], 2, 2, 6, api.OK}, {same[:1], same, 2, 2, 6, api.OK}, {same, nil, 2, 0, 0, api.EEXCEEDS}, {same, nil, 3, 3, 4, api.OK}, {nil, same, 3, 3, 4, api.OK}, {nil, same, 4, 3, 4, api.OK},

		{same, turned, 1, 0, 0, api.EEXCEEDS}, {same, turned, 2, 2, 10, api.OK}, {same, turned, 3, 2, 10, api.OK}, {same, turned, 4, 2, 14, api.OK}, {same, turned, 5, 2, 14, api.OK}, {same, turned, 6, 2, 16, api.OK}, {same, turned, 7, 2, 16, api.OK}, {same, turned, highest, 2, 16, api.OK}, {same, turned, highest - 1, 2, 16, api.OK},

		{same, other, 5, 0, 0, api.EEXCEEDS}, {same, other, 6, 6, 16, api.OK}, {same, other, 7, 6, 16, api.OK}, {same, other, highest, 6, 16, api.OK}, {same, other[:2], 4, 0, 0, api.EEXCEEDS}, {same, other[:2], 5, 5, 12, api.OK}, {other[1:], same, 4, 0, 0, api.EEXCEEDS}, {other[1:], same, 6, 5, 12, api.OK},
	} {
		if d, steps, e := band.Within(c.a, c.b, c.k); d != c.d || steps != c.cells || e != c.expected {
			t.Errorf("P19.1: Within(%d, %d, %d): %d, %d, %d, not %d, %d, %d", c.a, c.b, c.k, d, steps, e, c.d, c.cells, c.expected)
		}
	}
}

// P19.1: lists whose only way goes along one side of the band, or beside it.
func TestSidesOfTheBand(t *testing.T) {
	for _, n := range []int{0, 1, 2, 7, 64, 131} {
		middle := counted(n, 0)
		for own := range 16 {
			a := slices.Concat(counted(own/4, 1000), middle, counted(own%4, 2000))
			for other := range 16 {
				b := slices.Concat(counted(other/4, 3000), middle, counted(other%4, 4000))
				d := own/4 + own%4 + other/4 + other%4
				steps := int64(0)
				for _, k := range bounds(len(a), len(b), d) {
					steps += band.Cells(len(a), len(b), k)
				}
				checkRun(t, a, b, d, steps)
				for k := range d + 4 {
					checkWithin(t, a, b, k, d, band.Cells(len(a), len(b), k))
				}
			}
		}
	}
}

// P19.1: Run's list where there is only one that it can be.
func TestOnlyList(t *testing.T) {
	for _, c := range []struct {
		a, b []int
		want []api.Pair
	}{
		{nil, nil, nil}, {nil, []int{1}, nil}, {[]int{1}, nil, nil}, {[]int{1, 2}, []int{3, 4}, nil}, {[]int{1, 2}, []int{3}, nil},
		{[]int{4}, []int{4}, []api.Pair{{I: 0, J: 0}}}, {[]int{1, 4}, []int{2, 3, 4}, []api.Pair{{I: 1, J: 2}}}, {[]int{2, 3, 4}, []int{1, 4}, []api.Pair{{I: 2, J: 1}}}, {[]int{4, 1}, []int{4, 2}, []api.Pair{{I: 0, J: 0}}},
		{[]int{1, 2, 3}, []int{1, 3}, []api.Pair{{I: 0, J: 0}, {I: 2, J: 1}}}, {[]int{1, 3}, []int{1, 2, 3}, []api.Pair{{I: 0, J: 0}, {I: 1, J: 2}}}, {[]int{3, 1, 2}, []int{1, 2, 3}, []api.Pair{{I: 1, J: 0}, {I: 2, J: 1}}}, {[]int{1, 2, 3}, []int{3, 1, 2}, []api.Pair{{I: 0, J: 1}, {I: 1, J: 2}}},

		// A long run at first that leads nowhere.
		{[]int{3, 4, 1, 2, 9}, []int{1, 3, 4, 9}, []api.Pair{{I: 0, J: 1}, {I: 1, J: 2}, {I: 4, J: 3}}},
		{[]int{1, 2, 3, 4, 5, 6}, []int{1, 4, 5, 6, 2, 3}, []api.Pair{{I: 0, J: 0}, {I: 3, J: 1}, {I: 4, J: 2}, {I: 5, J: 3}}},
	} {
		if l, _ := band.Run(c.a, c.b); !slices.Equal(l, c.want) {
			t.Errorf("P19.1: Run(%d, %d): %v, not %v", c.a, c.b, l, c.want)
		}
	}
	for n := range 20 {
		for _, a := range [][]int{counted(n, -5), make([]int, n)} {
			l, _ := band.Run(a, slices.Clone(a))
			if len(l) != n {
				t.Fatalf("P19.1: Run(%d, the same): %v", a, l)
			}
			for k, p := range l {
				if p != (api.Pair{I: k, J: k}) {
					t.Fatalf("P19.1: Run(%d, the same): %v", a, l)
				}
			}
		}
	}
}

// P19.1: every two lists of few numbers of few kinds.
func TestAllShortLists(t *testing.T) {
	use := func(a, b []int) {
		worked(defined(a, b), a, b).check(t, a, b)
	}
	two([]int{1, 2}, 5, use)
	two([]int{-1, 0, 3}, 3, use)
	two([]int{lowest, -1, 0, highest}, 2, use)
	use = func(a, b []int) { check(t, a, b) }
	two([]int{1, 2}, 7, use)
	two([]int{-1, 0, 3}, 4, use)
	two([]int{lowest, -1, 0, highest}, 3, use)
}

// P19.1: longer lists, of few kinds and of many.
func TestManyLists(t *testing.T) {
	r := rand.New(rand.NewSource(191))
	for round := range 300 {
		kinds := 1 + r.Intn(1+round%40)
		a, b := some(r, 30, kinds), some(r, 30, kinds)
		check(t, a, b)
		check(t, b, a)
		check(t, a, a)
		check(t, a, changed(r, a, r.Intn(10), kinds))
		check(t, a, b[:len(b)/5])
		check(t, b[:len(b)/5], a)
	}
}

// P19.1: Within as grid's Dist, at every bound up to above the sum of the
// lengths.
func TestWithinAsGrid(t *testing.T) {
	r := rand.New(rand.NewSource(192))
	for round := range 40 {
		kinds := 1 + r.Intn(1+2*round)
		a := some(r, 80, kinds)
		for _, b := range [][]int{some(r, 80, kinds), changed(r, a, r.Intn(20), kinds), some(r, 9, kinds), nil, a} {
			for _, c := range [][2][]int{{a, b}, {b, a}} {
				d := grid.Dist(c[0], c[1])
				for k := -2; k < len(a)+len(b)+3; k++ {
					checkWithin(t, c[0], c[1], k, d, band.Cells(len(a), len(b), k))
				}
			}
		}
	}
}

// P19.1: lists of rows of several words: Within about the distance, and Run's
// list as long as grid's Len and valid, with as many steps as Cells tells.
func TestAsGrid(t *testing.T) {
	r := rand.New(rand.NewSource(193))
	for round := range 100 {
		kinds := 1 + r.Intn(1+3*round)
		a := some(r, 400, kinds)
		for _, b := range [][]int{some(r, 400, kinds), changed(r, a, r.Intn(60), kinds), some(r, 9, kinds), nil, a} {
			for _, c := range [][2][]int{{a, b}, {b, a}} {
				n, m, d := len(c[0]), len(c[1]), grid.Dist(c[0], c[1])
				steps := int64(0)
				for _, k := range bounds(n, m, d) {
					steps += band.Cells(n, m, k)
				}
				l, ran := band.Run(c[0], c[1])
				if len(l) != grid.Len(c[0], c[1]) || !pairs.Good(c[0], c[1], l) || ran != steps {
					t.Fatalf("P19.1: Run of %s: %v, %d, not %d", told(c[0], c[1]), l, ran, steps)
				}
				for _, k := range []int{apart(n, m) - 1, apart(n, m), d - 2, d - 1, d, d + 1, d + 2, n + m - 1, n + m, highest} {
					checkWithin(t, c[0], c[1], k, d, band.Cells(n, m, k))
				}
			}
		}
	}
}

// P19.1: numbers that fewer bits would not tell from each other.
func TestWideNumbers(t *testing.T) {
	for _, x := range wide {
		for n := range 5 {
			for m := range 5 {
				a, b := slices.Repeat([]int{x}, n), slices.Repeat([]int{x}, m)
				w := apart(n, m)
				checkTold(t, a, b, w, int64(w+1)*int64(min(n, m)+1))
				for _, y := range []int{x + 1, ^x} {
					c := slices.Repeat([]int{y}, m)
					worked(0, a, c).check(t, a, c)
				}
			}
		}
	}
	for _, c := range [][2]int{{0, 1 << 32}, {0, 256}, {0, 1 << 16}, {lowest, 0}, {lowest, highest}, {1, 1 + 1<<32}, {-1, 1<<32 - 1}, {-1, 1}, {1 << 31, -1 << 31}, {1 << 52, 1<<52 + 1}, {1 << 53, 1<<53 + 1}, {1 << 62, 1<<62 + 1}} {
		checkTold(t, c[:1], c[1:], 2, 8)
		checkTold(t, []int{c[0], c[1]}, []int{c[1], c[0]}, 2, 13)
		checkTold(t, c[:], slices.Clone(c[:]), 0, 3)
	}
	r := rand.New(rand.NewSource(194))
	for range 300 {
		a, b := make([]int, r.Intn(25)), make([]int, r.Intn(25))
		for _, l := range [][]int{a, b} {
			for i := range l {
				l[i] = wide[r.Intn(len(wide))]
			}
		}
		check(t, a, b)
	}
}

// P19.1: what lies in the memory before and behind a list is no part of it.
func TestMemoryAroundIsNoPart(t *testing.T) {
	whole := []int{1, 2, 3, 1, 2, 3, 1, 2, 3}
	for n := range whole {
		for m := range whole {
			check(t, whole[:n], whole[:m])
			check(t, whole[n:], whole[:m])
			check(t, whole[n:], whole[m:])
			check(t, whole[n:min(n+3, len(whole))], whole[m:])
		}
	}
}

// P19.1: long lists whose answer is known.
func TestLongLists(t *testing.T) {
	const n, all = 2000, 2001
	rising, equal := counted(n, 0), make([]int, n)
	// The steps of two lists of n numbers for the bounds up to 2047. The next one
	// asks for the whole table.
	steps := int64(0)
	for _, k := range []int{0, 1, 3, 7, 15, 31, 63, 127, 255, 511, 1023, 2047} {
		q := int64(k / 2)
		steps += all + q*(2*n+1-q)
	}
	for _, c := range []struct {
		a, b  []int
		d     int
		steps int64
	}{
		{equal, equal, 0, all}, {equal[n/4:], equal, n / 4, (n/4 + 1) * (n*3/4 + 1)}, {equal, equal[n/4:], n / 4, (n/4 + 1) * (n*3/4 + 1)}, {rising, equal, 2*n - 2, steps + all*all}, {equal, rising, 2*n - 2, steps + all*all}, {rising, counted(n, n), 2 * n, steps + all*all}, {rising, reversed(rising), 2*n - 2, steps + all*all},
		{slices.Repeat([]int{1, 2}, n/2), slices.Repeat([]int{2, 1}, n/2), 2, 2*all + all + 2*n}, {slices.Concat(rising[n/2:], rising[:n/2]), rising, n, steps},
		{rising, counted(n/2, n), n + n/2, 1001*1001 + 1001*1001 + 500*1501 + all*1001}, {counted(n/2, n), rising, n + n/2, 1001*1001 + 1001*1001 + 500*1501 + all*1001},
	} {
		checkRun(t, c.a, c.b, c.d, c.steps)
		n, m := len(c.a), len(c.b)
		for _, k := range []int{-1, 0, 1, apart(n, m) - 1, apart(n, m), c.d - 2, c.d - 1, c.d, c.d + 1, n + m - 1, n + m, highest} {
			checkWithin(t, c.a, c.b, k, c.d, band.Cells(n, m, k))
		}
	}
}

// P19.1 at the limit: lists of a small distance, and a short list beside a long
// one.
func TestAtTheLimit(t *testing.T) {
	const all = limit + 1
	long, equal := counted(limit, 0), make([]int, limit)
	for _, c := range []struct {
		a, b  []int
		d     int
		steps int64
		cells int64 // for the distance as bound
	}{
		{long, nil, limit, all, all}, {nil, equal, limit, all, all}, {long, []int{-1, limit}, limit + 2, 3*(limit-1) + 3*all, 3 * all}, {[]int{1, 2}, equal, limit + 2, 3*(limit-1) + 3*all, 3 * all},
		{long, slices.Clone(long), 0, all, all}, {equal, equal, 0, all, all}, {long, long[9:], 9, 10 * (limit - 8), 10 * (limit - 8)}, {long[:limit-9], long, 9, 10 * (limit - 8), 10 * (limit - 8)},
		{slices.Concat(long[1:], long[:1]), long, 2, 3*all + 2*limit, all + 2*limit}, {slices.Concat(long[3:], long[:3]), long, 6, 4*all + 2*limit + 6*(limit-1), all + 6*(limit-1)}, {long, slices.Concat(long[limit-3:], long[:limit-3]), 6, 4*all + 2*limit + 6*(limit-1), all + 6*(limit-1)},
		{equal, equal[:3], limit - 3, 4 * (limit - 2), 4 * (limit - 2)}, {long, []int{limit - 1, 6, 8, 7}, limit, 5*(limit-3) + 5*all, 5*all - 6}, {[]int{limit - 1, 6, 8, 7}, long, limit, 5*(limit-3) + 5*all, 5*all - 6},
	} {
		checkRun(t, c.a, c.b, c.d, c.steps)
		checkWithin(t, c.a, c.b, c.d, c.d, c.cells)
		for _, k := range []int{c.d - 1, c.d + 1, c.d + 2, apart(len(c.a), len(c.b)), apart(len(c.a), len(c.b)) - 1, 0, -1} {
			checkWithin(t, c.a, c.b, k, c.d, band.Cells(len(c.a), len(c.b), k))
		}
	}
	// A bound so far above the distance that its whole band would take too long.
	for _, k := range []int{2 * limit, highest} {
		checkWithin(t, slices.Concat(long[3:], long[:3]), long, k, 6, all*all)
		checkWithin(t, equal[:limit-3], equal, k, 3, all*(limit-2))
	}
}

// R1: no arguments make a call panic, also above the limit.
func TestNoPanic(t *testing.T) {
	at := append([]int{2, 3, 4, 5, limit, limit + 1, limit + 2, limit + 3, 2*limit + 3, -limit, lowest + limit, highest - limit}, wide...)
	two([]int{lowest, 0, highest}, 3, func(a, b []int) {
		for _, k := range at {
			band.Within(a, b, k)
		}
		band.Run(a, b)
	})
	for _, n := range at {
		for _, m := range at {
			for _, k := range at {
				band.Cells(n, m, k)
			}
		}
	}
	equal, rising := make([]int, limit+2), counted(limit+2, 0)
	for _, c := range [][2][]int{{rising, rising}, {equal, equal[1:]}, {rising[2:], rising}, {equal, nil}, {nil, equal}, {rising, {0, 1, 0}}, {{5, 1, 0}, rising}, {equal, {7, 7, 7}}} {
		for _, k := range []int{-1, 0, 1, 2, 3, limit + 3, lowest, highest} {
			band.Within(c[0], c[1], k)
		}
		band.Run(c[0], c[1])
	}
}

// samples are lists that have something in common, and such that have not.
func samples() [][2][]int {
	return [][2][]int{
		{{1}, {1}}, {{1, 2}, {2, 1}}, {{1, 2, 3, 2}, {1, 2, 4, 3, 2}}, {{5, 5, 5, 5, 5}, {5, 5, 5}}, {{6, 1, 2, 3}, {7, 1, 2, 3}}, {{1, 2, 1, 3, 1, 2, 2, 1}, {2, 1, 1, 3, 1, 2, 3}}, {{2, 1, 1, 3}, {1, 2, 1, 3, 1, 2, 2, 1, 9, 9}}, {{77, 1}, {1, 77}}, {{77}, {77, 77, 77}},
		{{1, 2}, {3}}, {{1, 2}, {3, 4}}, {nil, {1}}, {{1}, nil}, {nil, nil},
	}
}

// R4: no call modifies an argument or its spare capacity, and no change of a
// result changes one.
func TestArgumentsStay(t *testing.T) {
	for _, c := range samples() {
		a, b := roomy(c[0]), roomy(c[1])
		for k := -1; k < len(a)+len(b)+3; k++ {
			band.Within(a, b, k)
		}
		l, _ := band.Run(a, b)
		if !stayed(a, c[0]) || !stayed(b, c[1]) {
			t.Fatalf("R4: %d or %d was modified: %d, %d", c[0], c[1], a[:cap(a)], b[:cap(b)])
		}
		fill(l, api.Pair{I: -7, J: -7})
		fill(append(l, api.Pair{I: -8, J: -8}), api.Pair{I: -8, J: -8})
		if !stayed(a, c[0]) || !stayed(b, c[1]) {
			t.Fatalf("R4: a result shares memory with %d or %d: %d, %d", c[0], c[1], a[:cap(a)], b[:cap(b)])
		}
		check(t, a, b)
	}
}

// R4 and R5: results, with their spare capacity, are new memory each time:
// whoever changes one, or an argument, changes no other result.
func TestResultsAreNew(t *testing.T) {
	for _, c := range samples() {
		a, b := slices.Clone(c[0]), slices.Clone(c[1])
		w := worked(common(a, b), a, b)
		first, _ := band.Run(a, b)
		second, _ := band.Run(a, b)
		kept := slices.Clone(second)
		for _, with := range []int{-7, -8} {
			fill(first, api.Pair{I: with, J: with})
			first = append(first, api.Pair{I: with, J: with})
		}
		third, _ := band.Run(a, b)
		fill(a, -9)
		fill(b, -10)
		for _, l := range [][]api.Pair{second, third} {
			if !slices.Equal(l, kept) || !pairs.Good(c[0], c[1], l) {
				t.Errorf("R4: Run(%d, %d): %v, then %v", c[0], c[1], kept, l)
			}
		}
		check(t, a, b)
		w.check(t, c[0], c[1])
	}
}

// R5: answers hang on the arguments alone: the lists may be one piece of
// memory or several, and what was asked before does not matter.
func TestAnswersStay(t *testing.T) {
	whole := []int{1, 1, 2, 1, 1, 2, 3}
	first, _ := band.Run(whole[1:], whole[:6])
	for range 4 {
		check(t, whole, whole)
		check(t, whole[:3], whole[3:])
		check(t, whole[3:], whole[:3])
		check(t, whole[1:5], whole[2:])
		check(t, nil, whole)
		check(t, whole, nil)
		check(t, slices.Clone(whole), whole[2:])
		for _, c := range [][2][]int{{whole[1:], whole[:6]}, {slices.Clone(whole[1:]), roomy(whole[:6])}} {
			if l, _ := band.Run(c[0], c[1]); !slices.Equal(l, first) {
				t.Fatalf("R5: Run(%d, %d): %v, then %v", c[0], c[1], first, l)
			}
		}
	}
}

// R5: the same call has the same list each time.
func TestSameListEachTime(t *testing.T) {
	r := rand.New(rand.NewSource(195))
	for round := range 200 {
		kinds := 1 + r.Intn(1+round%30)
		a, b := some(r, 60, kinds), some(r, 60, kinds)
		first, _ := band.Run(a, b)
		for range 3 {
			if l, _ := band.Run(a, b); !slices.Equal(l, first) {
				t.Fatalf("R5: Run(%d, %d): %v, then %v", a, b, first, l)
			}
		}
	}
}

// R5: many goroutines at once, with the same lists and with lists of their
// own.
func TestManyAtOnce(t *testing.T) {
	shared := rand.New(rand.NewSource(196))
	for round := range 30 {
		a, b := some(shared, 40, 5), some(shared, 40, 5)
		w := worked(common(a, b), a, b)
		var group sync.WaitGroup
		start := make(chan bool)
		faults := make([]string, 8)
		for g := range faults {
			group.Go(func() {
				r := rand.New(rand.NewSource(int64(100*round + g)))
				<-start
				for range 6 {
					c, d := some(r, 20, 3), some(r, 20, 3)
					if f := worked(common(c, d), c, d).fault(c, d); f != "" {
						faults[g] = f
					}
					if f := w.fault(a, b); f != "" {
						faults[g] = f
					}
				}
			})
		}
		close(start)
		group.Wait()
		for g, f := range faults {
			if f != "" {
				t.Fatalf("R5: goroutine %d: %s", g, f)
			}
		}
	}
}
