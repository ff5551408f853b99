package hunt_test

import (
	"math"
	"math/rand"
	"slices"
	"sync"
	"testing"

	"tatting/api"
	"tatting/grid"
	"tatting/hunt"
	"tatting/pairs"
	"tatting/thresh"
)

const (
	lowest  = math.MinInt
	highest = math.MaxInt
	limit   = api.MaxTokens
)

// wide has numbers at the ends of the range of an int, about 0 and where fewer
// bits end.
var wide = []int{lowest, lowest + 1, -1 << 32, -1<<31 - 1, -7, -1, 0, 1, 1 << 31, 1<<32 + 1, highest - 1, highest}

// length has L: the greatest length of a chain of pairs, kept by the end of
// the chain in b.
func length(a, b []int) int {
	ends := make([]int, len(b))
	for _, x := range a {
		before := 0
		for j, y := range b {
			chain := before + 1
			before = max(before, ends[j])
			if x == y {
				ends[j] = max(ends[j], chain)
			}
		}
	}
	n := 0
	for _, e := range ends {
		n = max(n, e)
	}
	return n
}

// defined follows the definition of L in chapter 8.
func defined(a, b []int) int {
	if len(a) == 0 || len(b) == 0 {
		return 0
	}
	if a[0] == b[0] {
		return 1 + defined(a[1:], b[1:])
	}
	return max(defined(a[1:], b), defined(a, b[1:]))
}

// thresholds follows the words of P15.2, with l for L.
func thresholds(l func(a, b []int) int, a, b []int) []int {
	var t []int
	for k := range l(a, b) {
		j := 0
		for l(a, b[:j+1]) != k+1 {
			j++
		}
		t = append(t, j)
	}
	return t
}

// matches counts all pairs of indices, as P16.1 words it.
func matches(a, b []int) int64 {
	n := int64(0)
	for _, x := range a {
		for _, y := range b {
			if x == y {
				n++
			}
		}
	}
	return n
}

// indices returns where x is in b, in ascending order.
func indices(x int, b []int) []int {
	var l []int
	for j, y := range b {
		if x == y {
			l = append(l, j)
		}
	}
	return l
}

// lists calls use with every list of up to length of the given elements.
func lists(elements []int, length int, use func([]int)) {
	last := [][]int{nil}
	use(nil)
	for range length {
		var next [][]int
		for _, l := range last {
			for _, e := range elements {
				next = append(next, append(slices.Clone(l), e))
			}
		}
		for _, l := range next {
			use(l)
		}
		last = next
	}
}

// two calls use with every two lists of up to length of the given elements.
func two(elements []int, length int, use func(a, b []int)) {
	lists(elements, length, func(a []int) {
		lists(elements, length, func(b []int) {
			use(a, b)
		})
	})
}

// some returns up to length numbers out of few, about 0.
func some(r *rand.Rand, length, kinds int) []int {
	l := make([]int, r.Intn(length+1))
	for i := range l {
		l[i] = r.Intn(kinds) - kinds/2
	}
	return l
}

// changed returns a copy of l with so many numbers put in, left out or
// replaced.
func changed(r *rand.Rand, l []int, times, kinds int) []int {
	l = slices.Clone(l)
	for range times {
		at := r.Intn(len(l) + 1)
		switch r.Intn(3) {
		case 0:
			l = slices.Insert(l, at, r.Intn(kinds)-kinds/2)
		case 1:
			l = slices.Delete(l, at, min(at+1, len(l)))
		default:
			if at < len(l) {
				l[at] = r.Intn(kinds) - kinds/2
			}
		}
	}
	return l
}

// counted returns n numbers from first on.
func counted(n, first int) []int {
	l := make([]int, n)
	for i := range l {
		l[i] = first + i
	}
	return l
}

// reversed returns a copy from its end to its beginning.
func reversed(l []int) []int {
	l = slices.Clone(l)
	slices.Reverse(l)
	return l
}

// fill overwrites a list and its spare capacity.
func fill[E any](l []E, with E) {
	l = l[:cap(l)]
	for i := range l {
		l[i] = with
	}
}

// roomy returns a copy of l with spare capacity, which holds a number of its
// own.
func roomy(l []int) []int {
	whole := make([]int, len(l)+5)
	fill(whole, 77)
	copy(whole, l)
	return whole[:len(l)]
}

// stayed reports whether a list that roomy made is as it was, with its spare
// capacity.
func stayed(l, was []int) bool {
	return slices.Equal(l[:cap(l)], roomy(was)[:len(was)+5])
}

// answer is what P16.1 asks for two lists.
type answer struct {
	thresholds []int
	hits       int64
}

// worked returns the answer for a and b, with l for L.
func worked(l func(a, b []int) int, a, b []int) answer {
	return answer{thresholds: thresholds(l, a, b), hits: matches(a, b)}
}

// fault tells which call answers otherwise than it should, or nothing.
func (w answer) fault(a, b []int) string {
	if !slices.Equal(hunt.Thresholds(a, b), w.thresholds) {
		return "Thresholds"
	}
	if hunt.Hits(a, b) != w.hits {
		return "Hits"
	}
	l, steps := hunt.Run(a, b)
	switch {
	case !pairs.Good(a, b, l):
		return "Run's list, which is not valid"
	case len(l) != len(w.thresholds):
		return "the length of Run's list"
	case steps != w.hits:
		return "Run's steps"
	}
	return ""
}

// check holds all three calls against w.
func (w answer) check(t *testing.T, a, b []int) {
	t.Helper()
	wrong := w.fault(a, b)
	if wrong == "" {
		return
	}
	got, hits := hunt.Thresholds(a, b), hunt.Hits(a, b)
	l, steps := hunt.Run(a, b)
	if len(a)+len(b) > 200 {
		t.Fatalf("P16.1: %d and %d numbers: %s: %d thresholds, %d hits, %d pairs, %d steps, not %d thresholds and %d hits", len(a), len(b), wrong, len(got), hits, len(l), steps, len(w.thresholds), w.hits)
	}
	t.Fatalf("P16.1: %d and %d: %s: %d, %d; Run %v, %d; not %d, %d", a, b, wrong, got, hits, l, steps, w.thresholds, w.hits)
}

// check holds all three calls against an answer that is worked out here.
func check(t *testing.T, a, b []int) {
	t.Helper()
	worked(length, a, b).check(t, a, b)
}

// P16.1: the example of the chapter.
func TestExample(t *testing.T) {
	if n := hunt.Hits([]int{1, 2, 1}, []int{1, 1}); n != 4 {
		t.Errorf("P16.1: Hits(1 2 1, 1 1): %d", n)
	}
}

// P16.1: the edges, told.
func TestEdges(t *testing.T) {
	for _, c := range []struct {
		a, b, thresholds []int
		hits             int64
	}{
		// One or both lists empty.
		{nil, nil, nil, 0}, {nil, []int{}, nil, 0}, {[]int{}, nil, nil, 0}, {[]int{}, []int{}, nil, 0},
		{nil, []int{1}, nil, 0}, {[]int{1}, nil, nil, 0}, {[]int{}, []int{0, 0, 0}, nil, 0}, {[]int{0, 0, 0}, []int{}, nil, 0}, {nil, []int{0, 1, 2}, nil, 0}, {[]int{-1, 0, 1}, nil, nil, 0},

		// One number in one list or in both.
		{[]int{4}, []int{4}, []int{0}, 1}, {[]int{4}, []int{5}, nil, 0}, {[]int{0}, []int{0}, []int{0}, 1}, {[]int{-4}, []int{4}, nil, 0},
		{[]int{4}, []int{1, 2, 4}, []int{2}, 1}, {[]int{4}, []int{4, 1, 4}, []int{0}, 2}, {[]int{4}, []int{4, 4, 4}, []int{0}, 3}, {[]int{4}, []int{1, 2}, nil, 0},
		{[]int{1, 2, 4}, []int{4}, []int{0}, 1}, {[]int{4, 1, 4}, []int{4}, []int{0}, 2}, {[]int{4, 4, 4}, []int{4}, []int{0}, 3}, {[]int{1, 2}, []int{4}, nil, 0},

		// The same list twice.
		{[]int{1, 2, 3}, []int{1, 2, 3}, []int{0, 1, 2}, 3}, {[]int{1, 2, 1}, []int{1, 2, 1}, []int{0, 1, 2}, 5},

		// Nothing alike, and the reverse.
		{[]int{1, 2, 3}, []int{4, 5, 6, 7}, nil, 0}, {[]int{1, 2, 3, 4}, []int{-1, -2, -3, -4}, nil, 0}, {[]int{1, 2, 3, 4}, []int{4, 3, 2, 1}, []int{0}, 4},

		// All pairs of indices match.
		{[]int{5, 5, 5}, []int{5, 5, 5}, []int{0, 1, 2}, 9}, {[]int{5, 5}, []int{5, 5, 5, 5}, []int{0, 1}, 8}, {[]int{5, 5, 5, 5}, []int{5, 5}, []int{0, 1}, 8}, {[]int{-5, -5}, []int{-5}, []int{0}, 2},

		// The ends of the range, and below 0.
		{[]int{lowest}, []int{lowest}, []int{0}, 1}, {[]int{lowest}, []int{highest}, nil, 0}, {[]int{lowest, highest}, []int{highest, lowest}, []int{0}, 2}, {[]int{lowest, 0, highest}, []int{7, lowest, highest}, []int{1, 2}, 2}, {[]int{-1, -2, -1}, []int{-2, -1, -2}, []int{0, 1}, 4},

		// One list within the other, and lists that are alike in part.
		{[]int{2, 3}, []int{1, 2, 3, 4}, []int{1, 2}, 2}, {[]int{1, 4}, []int{1, 2, 3, 4}, []int{0, 3}, 2}, {[]int{1, 2, 3, 4}, []int{1, 4}, []int{0, 1}, 2},
		{[]int{1, 2, 3, 4}, []int{2, 9, 4, 3}, []int{0, 2}, 3}, {[]int{3, 1, 2}, []int{1, 2, 3, 1, 2}, []int{0, 1, 4}, 5}, {[]int{1, 2, 1, 3}, []int{2, 1, 3, 1}, []int{0, 1, 2}, 6},
	} {
		answer{c.thresholds, c.hits}.check(t, c.a, c.b)
		worked(defined, c.a, c.b).check(t, c.a, c.b)
	}
}

// P16.1: Run's list where there is only one that it can be.
func TestOnlyList(t *testing.T) {
	for _, c := range []struct {
		a, b []int
		want []api.Pair
	}{
		{nil, []int{1}, nil}, {[]int{1, 2}, []int{3, 4}, nil},
		{[]int{4}, []int{4}, []api.Pair{{I: 0, J: 0}}}, {[]int{1, 4}, []int{2, 3, 4}, []api.Pair{{I: 1, J: 2}}}, {[]int{4, 1}, []int{4, 2}, []api.Pair{{I: 0, J: 0}}},
		{[]int{1, 2, 3}, []int{1, 3}, []api.Pair{{I: 0, J: 0}, {I: 2, J: 1}}}, {[]int{3, 1, 2}, []int{1, 2, 3}, []api.Pair{{I: 1, J: 0}, {I: 2, J: 1}}},

		// The end of a good beginning that something else replaces later.
		{[]int{5, 6, 1}, []int{1, 5, 6}, []api.Pair{{I: 0, J: 1}, {I: 1, J: 2}}},
		{[]int{3, 4, 1, 2, 9}, []int{1, 3, 4, 9}, []api.Pair{{I: 0, J: 1}, {I: 1, J: 2}, {I: 4, J: 3}}},
	} {
		if l, _ := hunt.Run(c.a, c.b); !slices.Equal(l, c.want) {
			t.Errorf("P16.1: Run(%d, %d): %v, not %v", c.a, c.b, l, c.want)
		}
	}
	for n := range 20 {
		for _, a := range [][]int{counted(n, -5), make([]int, n)} {
			l, _ := hunt.Run(a, slices.Clone(a))
			if len(l) != n {
				t.Fatalf("P16.1: Run(%d, the same): %v", a, l)
			}
			for k, p := range l {
				if p != (api.Pair{I: k, J: k}) {
					t.Fatalf("P16.1: Run(%d, the same): %v", a, l)
				}
			}
		}
	}
}

// P16.1: every two lists of few numbers of few kinds.
func TestAllShortLists(t *testing.T) {
	use := func(a, b []int) {
		worked(defined, a, b).check(t, a, b)
	}
	two([]int{1, 2}, 6, use)
	two([]int{-1, 0, 3}, 4, use)
	two([]int{lowest, -1, 0, highest}, 3, use)
}

// P16.1: longer lists, of few numbers and of many.
func TestManyLists(t *testing.T) {
	r := rand.New(rand.NewSource(161))
	for round := range 400 {
		kinds := 1 + r.Intn(1+round%40)
		a, b := some(r, 40, kinds), some(r, 40, kinds)
		check(t, a, b)
		check(t, a, a)
		check(t, a, changed(r, a, r.Intn(10), kinds))
		check(t, a, b[:len(b)/5])
		check(t, b[:len(b)/5], a)
	}
}

// P16.1: L as package grid has it, for all beginnings of b at once.
func TestAsGrid(t *testing.T) {
	r := rand.New(rand.NewSource(162))
	for round := range 200 {
		kinds := 1 + r.Intn(1+3*round)
		a := some(r, 400, kinds)
		for _, b := range [][]int{some(r, 400, kinds), changed(r, a, r.Intn(60), kinds), some(r, 9, kinds)} {
			ahead := grid.Ahead(a, b)[len(a)]
			w := answer{hits: matches(a, b)}
			for j := range b {
				if ahead[j+1] > ahead[j] {
					w.thresholds = append(w.thresholds, j)
				}
			}
			w.check(t, a, b)
		}
	}
}

// P16.1: the thresholds of a and one more number come from those of a, as
// P15.2 says.
func TestNumberByNumber(t *testing.T) {
	r := rand.New(rand.NewSource(163))
	for round := range 100 {
		kinds := 1 + r.Intn(1+round)
		a, b := some(r, 80, kinds), some(r, 80, kinds)
		var want []int
		for i, x := range a {
			want = thresh.Row(want, indices(x, b))
			if got := hunt.Thresholds(a[:i+1], b); !slices.Equal(got, want) {
				t.Fatalf("P16.1: Thresholds(%d, %d): %d, not %d", a[:i+1], b, got, want)
			}
		}
	}
}

// P16.1: numbers that fewer bits would not tell from each other.
func TestWideNumbers(t *testing.T) {
	for _, x := range wide {
		for n := range 5 {
			for m := range 5 {
				a, b := slices.Repeat([]int{x}, n), slices.Repeat([]int{x}, m)
				answer{counted(min(n, m), 0), int64(n * m)}.check(t, a, b)
				answer{}.check(t, a, slices.Repeat([]int{x + 1}, m))
				answer{}.check(t, a, slices.Repeat([]int{^x}, m))
			}
		}
	}
	for _, c := range [][2]int{{0, 1 << 32}, {0, 256}, {0, 1 << 16}, {lowest, 0}, {lowest, highest}, {1, 1 + 1<<32}, {-1, 1<<32 - 1}, {-1, 1}, {1 << 31, -1 << 31}, {1 << 52, 1<<52 + 1}, {1 << 62, 1<<62 + 1}} {
		answer{}.check(t, c[:1], c[1:])
		answer{[]int{0}, 2}.check(t, []int{c[0], c[1]}, []int{c[1], c[0]})
		answer{[]int{0, 1}, 2}.check(t, c[:], c[:])
	}
	r := rand.New(rand.NewSource(164))
	for range 300 {
		a, b := make([]int, r.Intn(30)), make([]int, r.Intn(30))
		for _, l := range [][]int{a, b} {
			for i := range l {
				l[i] = wide[r.Intn(len(wide))]
			}
		}
		check(t, a, b)
	}
}

// P16.1: what is in the spare capacity of a list is no part of it.
func TestSpareCapacityIsNoPart(t *testing.T) {
	whole := []int{1, 2, 3, 1, 2, 3, 1, 2, 3}
	for n := range whole {
		for m := range whole {
			answer{counted(min(n, m), 0), matches(slices.Clip(whole[:n]), slices.Clip(whole[:m]))}.check(t, whole[:n], whole[:m])
			check(t, whole[n:], whole[:m])
		}
	}
}

// P16.1: long lists whose answer is known.
func TestLongLists(t *testing.T) {
	const n = 2000
	rising, equal := counted(n, 0), make([]int, n)
	for _, c := range []struct {
		a, b, thresholds []int
		hits             int64
	}{
		{equal, equal, rising, n * n}, {equal[n/4:], equal, rising[:n-n/4], (n - n/4) * n}, {equal, equal[n/4:], rising[:n-n/4], (n - n/4) * n}, {rising, equal, rising[:1], n}, {equal, rising, rising[:1], n},
		{slices.Repeat([]int{1, 2}, n/2), slices.Repeat([]int{1, 2}, n/2), rising, n * n / 2}, {slices.Repeat([]int{1, 2}, n/2), slices.Repeat([]int{2, 1}, n/2), rising[:n-1], n * n / 2},
		{slices.Concat(rising[n/2:], rising[:n/2]), rising, rising[:n/2], n},
	} {
		answer{c.thresholds, c.hits}.check(t, c.a, c.b)
	}
}

// P16.1 at the limit: lists that match at few indices, and a short list beside
// a long one.
func TestAtTheLimit(t *testing.T) {
	long, equal := counted(limit, 0), make([]int, limit)
	even := make([]int, limit)
	for i := range even {
		even[i] = 2 * i
	}
	for _, c := range []struct {
		a, b, thresholds []int
		hits             int64
	}{
		{long, nil, nil, 0}, {nil, equal, nil, 0}, {long, []int{-1, limit}, nil, 0}, {[]int{1, 2}, equal, nil, 0},
		{long, slices.Clone(long), long, limit}, {long, reversed(long), []int{0}, limit}, {long, counted(limit, limit-2), []int{0, 1}, 2},
		{even, long, even[:limit/2], limit / 2},
		{equal, equal[:3], []int{0, 1, 2}, 3 * limit}, {equal[:3], equal, []int{0, 1, 2}, 3 * limit}, {long, []int{limit - 1, 6, 8, 7}, []int{0, 2}, 4}, {[]int{limit - 1, 6, 8, 7}, long, []int{6, 7}, 4},
	} {
		answer{c.thresholds, c.hits}.check(t, c.a, c.b)
	}
	// More than 32 bits can count.
	if n := hunt.Hits(equal, equal); n != limit*limit {
		t.Errorf("P16.1: Hits at the limit: %d", n)
	}
	if n := hunt.Hits(slices.Repeat([]int{3, -3}, limit/2), equal); n != 0 {
		t.Errorf("P16.1: Hits of nothing alike at the limit: %d", n)
	}
}

// R1: no arguments make a call panic, also above the limit.
func TestNoPanic(t *testing.T) {
	two([]int{lowest, 0, highest}, 4, func(a, b []int) {
		hunt.Thresholds(a, b)
		hunt.Hits(a, b)
		hunt.Run(a, b)
	})
	equal, rising := make([]int, limit+2), counted(limit+2, 0)
	hunt.Hits(equal, equal)
	hunt.Hits(rising, equal)
	for _, c := range [][2][]int{{rising, rising}, {rising, equal}, {equal, rising}, {rising, reversed(rising)}, {equal, nil}, {nil, equal}, {equal, {0, 1, 0}}, {{0, 1, 0}, equal}} {
		hunt.Thresholds(c[0], c[1])
		hunt.Hits(c[0], c[1])
		hunt.Run(c[0], c[1])
	}
}

// samples are lists that have something in common, and such that have not.
func samples() [][2][]int {
	return [][2][]int{
		{{1}, {1}}, {{1, 2}, {2, 1}}, {{1, 2, 3, 2}, {1, 2, 4, 3, 2}}, {{5, 5, 5, 5, 5}, {5, 5, 5}}, {{6, 1, 2, 3}, {7, 1, 2, 3}}, {{1, 2, 1, 3, 1, 2, 2, 1}, {2, 1, 1, 3, 1, 2, 3}}, {{77, 1}, {1, 77}},
		{{1, 2}, {3}}, {nil, {1}}, {{1}, nil}, {nil, nil},
	}
}

// R4: no call modifies an argument or its spare capacity, and no change of a
// result changes one.
func TestArgumentsStay(t *testing.T) {
	for _, c := range samples() {
		a, b := roomy(c[0]), roomy(c[1])
		hunt.Hits(a, b)
		l := hunt.Thresholds(a, b)
		p, _ := hunt.Run(a, b)
		if !stayed(a, c[0]) || !stayed(b, c[1]) {
			t.Fatalf("R4: %d or %d was modified: %d, %d", c[0], c[1], a[:cap(a)], b[:cap(b)])
		}
		fill(l, -7)
		fill(append(l, -8), -8)
		fill(p, api.Pair{I: -7, J: -7})
		fill(append(p, api.Pair{I: -8, J: -8}), api.Pair{I: -8, J: -8})
		if !stayed(a, c[0]) || !stayed(b, c[1]) {
			t.Fatalf("R4: a result shares memory with %d or %d: %d, %d", c[0], c[1], a[:cap(a)], b[:cap(b)])
		}
	}
}

// R4 and R5: results, with their spare capacity, are new memory each time:
// whoever changes one, or an argument, changes no other result.
func TestResultsAreNew(t *testing.T) {
	for _, c := range samples() {
		a, b := slices.Clone(c[0]), slices.Clone(c[1])
		w := worked(length, a, b)
		firstT, secondT := hunt.Thresholds(a, b), hunt.Thresholds(a, b)
		firstL, _ := hunt.Run(a, b)
		secondL, _ := hunt.Run(a, b)
		kept := slices.Clone(secondL)
		for _, with := range []int{-7, -8} {
			fill(firstT, with)
			fill(firstL, api.Pair{I: with, J: with})
			firstT, firstL = append(firstT, with), append(firstL, api.Pair{I: with, J: with})
		}
		thirdT := hunt.Thresholds(a, b)
		thirdL, _ := hunt.Run(a, b)
		fill(a, -9)
		fill(b, -10)
		for _, l := range [][]int{secondT, thirdT} {
			if !slices.Equal(l, w.thresholds) {
				t.Errorf("R4: Thresholds(%d, %d): %d, then %d", c[0], c[1], w.thresholds, l)
			}
		}
		for _, l := range [][]api.Pair{secondL, thirdL} {
			if !slices.Equal(l, kept) || !pairs.Good(c[0], c[1], l) || len(l) != len(w.thresholds) {
				t.Errorf("R4: Run(%d, %d): %v, then %v", c[0], c[1], kept, l)
			}
		}
		answer{}.check(t, a, b)
		w.check(t, c[0], c[1])
	}
}

// R5: answers hang on the arguments alone: the lists may be one piece of
// memory or several, and what was asked before does not matter.
func TestAnswersStay(t *testing.T) {
	whole := []int{1, 1, 2, 1, 1, 2, 3}
	first, _ := hunt.Run(whole[1:], whole[:6])
	for range 4 {
		check(t, whole, whole)
		check(t, whole[:3], whole[3:])
		check(t, whole[3:], whole[:3])
		check(t, whole[1:5], whole[2:])
		check(t, nil, whole)
		check(t, whole, nil)
		check(t, slices.Clone(whole), whole[2:])
		for _, c := range [][2][]int{{whole[1:], whole[:6]}, {slices.Clone(whole[1:]), roomy(whole[:6])}} {
			if l, _ := hunt.Run(c[0], c[1]); !slices.Equal(l, first) {
				t.Fatalf("R5: Run(%d, %d): %v, then %v", c[0], c[1], first, l)
			}
		}
	}
}

// R5: the same call has the same list each time.
func TestSameListEachTime(t *testing.T) {
	r := rand.New(rand.NewSource(165))
	for round := range 200 {
		kinds := 1 + r.Intn(1+round%30)
		a, b := some(r, 60, kinds), some(r, 60, kinds)
		first, _ := hunt.Run(a, b)
		for range 3 {
			if l, _ := hunt.Run(a, b); !slices.Equal(l, first) {
				t.Fatalf("R5: Run(%d, %d): %v, then %v", a, b, first, l)
			}
		}
	}
}

// R5: many goroutines at once, with the same lists and with lists of their
// own.
func TestManyAtOnce(t *testing.T) {
	shared := rand.New(rand.NewSource(166))
	for round := range 40 {
		a, b := some(shared, 60, 5), some(shared, 60, 5)
		w := worked(length, a, b)
		var group sync.WaitGroup
		start := make(chan bool)
		faults := make([]string, 8)
		for g := range faults {
			group.Go(func() {
				r := rand.New(rand.NewSource(int64(100*round + g)))
				<-start
				for range 10 {
					c, d := some(r, 20, 3), some(r, 20, 3)
					if f := worked(length, c, d).fault(c, d); f != "" {
						faults[g] = f
					}
					if f := w.fault(a, b); f != "" {
						faults[g] = f
					}
				}
			})
		}
		close(start)
		group.Wait()
		for g, f := range faults {
			if f != "" {
				t.Fatalf("R5: goroutine %d: %s", g, f)
			}
		}
	}
}
