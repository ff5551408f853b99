package russ_test

import (
	"math"
	"math/rand"
	"slices"
	"sync"
	"testing"

	"tatting/api"
	"tatting/grid"
	"tatting/russ"
	"tatting/tile"
)

const (
	lowest  = math.MinInt
	highest = math.MaxInt
	largest = api.MaxSide
	limit   = api.MaxTokens
)

// all has the blocks of every side; tests that need new ones make them.
var all = func() []*tile.Tiles {
	var l []*tile.Tiles
	for side := 1; side <= largest; side++ {
		l = append(l, made(side))
	}
	return l
}()

// made returns the blocks of side side.
func made(side int) *tile.Tiles {
	x, e := tile.New(side)
	if e != api.OK || x == nil {
		panic("tile.New")
	}
	return x
}

// length has L: the greatest length of a chain of pairs, kept by the end of
// the chain in b.
func length(a, b []int) int {
	ends := make([]int, len(b))
	for _, x := range a {
		before := 0
		for j, y := range b {
			chain := before + 1
			before = max(before, ends[j])
			if x == y {
				ends[j] = max(ends[j], chain)
			}
		}
	}
	n := 0
	for _, e := range ends {
		n = max(n, e)
	}
	return n
}

// defined follows the definition of L in chapter 8.
func defined(a, b []int) int {
	if len(a) == 0 || len(b) == 0 {
		return 0
	}
	if a[0] == b[0] {
		return 1 + defined(a[1:], b[1:])
	}
	return max(defined(a[1:], b), defined(a, b[1:]))
}

// good follows the words of chapter 7.
func good(a, b []int, l []api.Pair) bool {
	for k, p := range l {
		if p.I < 0 || p.I >= len(a) || p.J < 0 || p.J >= len(b) || a[p.I] != b[p.J] {
			return false
		}
		if k > 0 && (p.I <= l[k-1].I || p.J <= l[k-1].J) {
			return false
		}
	}
	return true
}

// blocks counts how many times a block of side side begins in n numbers.
func blocks(n, side int) int64 {
	count := int64(0)
	for at := 0; at < n; at += side {
		count++
	}
	return count
}

// lists calls use with every list of up to length of the given elements.
func lists(elements []int, length int, use func([]int)) {
	last := [][]int{nil}
	use(nil)
	for range length {
		var next [][]int
		for _, l := range last {
			for _, e := range elements {
				next = append(next, append(slices.Clone(l), e))
			}
		}
		for _, l := range next {
			use(l)
		}
		last = next
	}
}

// two calls use with every two lists of up to length of the given elements.
func two(elements []int, length int, use func(a, b []int)) {
	lists(elements, length, func(a []int) {
		lists(elements, length, func(b []int) {
			use(a, b)
		})
	})
}

// exactly returns length numbers out of few, about 0.
func exactly(r *rand.Rand, length, kinds int) []int {
	l := make([]int, length)
	for i := range l {
		l[i] = r.Intn(kinds) - kinds/2
	}
	return l
}

// some returns up to length numbers out of few, about 0.
func some(r *rand.Rand, length, kinds int) []int {
	return exactly(r, r.Intn(length+1), kinds)
}

// changed returns a copy of l with so many numbers put in, left out or
// replaced.
func changed(r *rand.Rand, l []int, times, kinds int) []int {
	l = slices.Clone(l)
	for range times {
		at := r.Intn(len(l) + 1)
		switch r.Intn(3) {
		case 0:
			l = slices.Insert(l, at, r.Intn(kinds)-kinds/2)
		case 1:
			l = slices.Delete(l, at, min(at+1, len(l)))
		default:
			if at < len(l) {
				l[at] = r.Intn(kinds) - kinds/2
			}
		}
	}
	return l
}

// counted returns n numbers from first on.
func counted(n, first int) []int {
	l := make([]int, n)
	for i := range l {
		l[i] = first + i
	}
	return l
}

// reversed returns a copy from its end to its beginning.
func reversed(l []int) []int {
	l = slices.Clone(l)
	slices.Reverse(l)
	return l
}

// fill overwrites a list and its spare capacity.
func fill[E any](l []E, with E) {
	l = l[:cap(l)]
	for i := range l {
		l[i] = with
	}
}

// fault tells which call answers otherwise than P14.1 asks, with L as it
// should be, or nothing.
func fault(x *tile.Tiles, a, b []int, want int) string {
	if n, e := russ.Len(x, a, b); n != want || e != api.OK {
		return "Len"
	}
	l, steps, e := russ.Run(x, a, b)
	switch {
	case e != api.OK:
		return "Run's error"
	case !good(a, b, l):
		return "Run's list, which is not valid"
	case len(l) != want:
		return "the length of Run's list"
	case steps != blocks(len(a), x.Side())*blocks(len(b), x.Side()):
		return "Run's steps"
	}
	return ""
}

// checkOne holds both calls against P14.1, for one object.
func checkOne(t *testing.T, x *tile.Tiles, a, b []int, want int) {
	t.Helper()
	wrong := fault(x, a, b, want)
	if wrong == "" {
		return
	}
	n, e := russ.Len(x, a, b)
	l, steps, f := russ.Run(x, a, b)
	if len(a)+len(b) > 200 {
		t.Fatalf("P14.1: side %d, %d and %d numbers: %s: Len %d, %d; Run %d pairs, %d, %d; L is %d", x.Side(), len(a), len(b), wrong, n, e, len(l), steps, f, want)
	}
	t.Fatalf("P14.1: side %d, %d and %d: %s: Len %d, %d; Run %v, %d, %d; L is %d", x.Side(), a, b, wrong, n, e, l, steps, f, want)
}

// checkLength holds both calls against P14.1 and P14.2, for every side.
func checkLength(t *testing.T, a, b []int, want int) {
	t.Helper()
	for _, x := range all {
		checkOne(t, x, a, b, want)
	}
}

// check does so with L worked out here.
func check(t *testing.T, a, b []int) {
	t.Helper()
	checkLength(t, a, b, length(a, b))
}

// checkSteps holds the steps of every side against told ones.
func checkSteps(t *testing.T, a, b []int, want []int64) {
	t.Helper()
	for k, x := range all {
		if _, steps, e := russ.Run(x, a, b); steps != want[k] || e != api.OK {
			t.Fatalf("P14.1: side %d: Run of %d and %d numbers: %d steps, %d, not %d", x.Side(), len(a), len(b), steps, e, want[k])
		}
	}
}

// P14.1: the example of the chapter.
func TestExample(t *testing.T) {
	for _, c := range [][2][]int{{{1, 2, 3}, {4, 5, 6, 7, 8}}, {{1, 2, 3, 4, 5}, {3, 2, 1}}, {{7, 7, 7}, {7, 7, 7, 7, 7}}} {
		if _, steps, e := russ.Run(made(2), c[0], c[1]); steps != 6 || e != api.OK {
			t.Errorf("P14.1: side 2: Run(%d, %d): %d steps, %d", c[0], c[1], steps, e)
		}
	}
}

// P14.1 and R2: what comes without an object, whatever the lists are.
func TestNil(t *testing.T) {
	long := counted(limit+1, 0)
	for _, a := range [][]int{nil, {}, {1}, {1, 2, 3}, {lowest, highest}, long} {
		for _, b := range [][]int{nil, {}, {1}, {3, 2, 1}, {highest}, long} {
			if n, e := russ.Len(nil, a, b); n != 0 || e != api.EARG {
				t.Errorf("P14.1, R2: Len of nil and %d and %d numbers: %d, %d", len(a), len(b), n, e)
			}
			if l, steps, e := russ.Run(nil, a, b); len(l) != 0 || steps != 0 || e != api.EARG {
				t.Errorf("P14.1, R2: Run of nil and %d and %d numbers: %v, %d, %d", len(a), len(b), l, steps, e)
			}
		}
	}
}

// P14.1: the edges, with L and the steps of each side told.
func TestEdges(t *testing.T) {
	for _, c := range []struct {
		a, b  []int
		want  int
		steps []int64
	}{
		// One or both lists empty.
		{nil, nil, 0, []int64{0, 0, 0}}, {nil, []int{}, 0, []int64{0, 0, 0}}, {[]int{}, nil, 0, []int64{0, 0, 0}}, {[]int{}, []int{}, 0, []int64{0, 0, 0}},
		{nil, []int{1}, 0, []int64{0, 0, 0}}, {[]int{1}, nil, 0, []int64{0, 0, 0}}, {[]int{}, []int{0, 0, 0, 0}, 0, []int64{0, 0, 0}}, {[]int{0, 0, 0, 0}, []int{}, 0, []int64{0, 0, 0}},

		// One number in one list or in both.
		{[]int{4}, []int{4}, 1, []int64{1, 1, 1}}, {[]int{4}, []int{5}, 0, []int64{1, 1, 1}}, {[]int{0}, []int{0}, 1, []int64{1, 1, 1}},
		{[]int{4}, []int{1, 2}, 0, []int64{2, 1, 1}}, {[]int{4}, []int{1, 2, 4}, 1, []int64{3, 2, 1}}, {[]int{4}, []int{4, 1, 2, 3}, 1, []int64{4, 2, 2}}, {[]int{4}, []int{4, 4, 4, 4, 4, 4, 4}, 1, []int64{7, 4, 3}},
		{[]int{1, 4}, []int{4}, 1, []int64{2, 1, 1}}, {[]int{1, 2, 4}, []int{4}, 1, []int64{3, 2, 1}}, {[]int{4, 1, 2, 3}, []int{4}, 1, []int64{4, 2, 2}}, {[]int{1, 2, 3, 5, 6, 7, 8}, []int{4}, 0, []int64{7, 4, 3}},

		// Equal lists.
		{[]int{1, 2}, []int{1, 2}, 2, []int64{4, 1, 1}}, {[]int{1, 2, 3}, []int{1, 2, 3}, 3, []int64{9, 4, 1}}, {[]int{1, 2, 3, 4}, []int{1, 2, 3, 4}, 4, []int64{16, 4, 4}},
		{[]int{5, 5, 5, 5, 5}, []int{5, 5, 5, 5, 5}, 5, []int64{25, 9, 4}}, {[]int{1, 2, 3, 4, 5, 6}, []int{1, 2, 3, 4, 5, 6}, 6, []int64{36, 9, 4}}, {[]int{1, 2, 3, 4, 5, 6, 7}, []int{1, 2, 3, 4, 5, 6, 7}, 7, []int64{49, 16, 9}},

		// Nothing in common, and the reverse.
		{[]int{1, 2, 3}, []int{4, 5, 6, 7}, 0, []int64{12, 4, 2}}, {[]int{1, 2, 3, 4}, []int{-1, -2, -3, -4}, 0, []int64{16, 4, 4}}, {[]int{1, 2, 3, 4, 5}, []int{5, 4, 3, 2, 1}, 1, []int64{25, 9, 4}},

		// One list within the other, and lists that are alike in part.
		{[]int{2, 3}, []int{1, 2, 3, 4}, 2, []int64{8, 2, 2}}, {[]int{1, 4}, []int{1, 2, 3, 4}, 2, []int64{8, 2, 2}}, {[]int{1, 2, 3, 4, 5, 6, 7, 8}, []int{1, 4, 8}, 3, []int64{24, 8, 3}},
		{[]int{1, 2, 3, 4}, []int{2, 9, 4, 3}, 2, []int64{16, 4, 4}}, {[]int{1, 2, 3, 4, 5, 6, 7}, []int{5, 6, 7, 1, 2, 3, 4}, 4, []int64{49, 16, 9}}, {[]int{5, 5, 5}, []int{5, 5}, 2, []int64{6, 2, 1}},

		// The last numbers alone are equal, each list in a block of its own
		// length.
		{[]int{1, 2, 9}, []int{3, 9}, 1, []int64{6, 2, 1}}, {[]int{1, 2, 3, 9}, []int{4, 5, 6, 9}, 1, []int64{16, 4, 4}}, {[]int{1, 2, 3, 4, 9}, []int{6, 9}, 1, []int64{10, 3, 2}},
	} {
		checkLength(t, c.a, c.b, c.want)
		checkSteps(t, c.a, c.b, c.steps)
		check(t, c.a, c.b)
	}
}

// P14.1 and P14.2: every two short lists.
func TestAllShortLists(t *testing.T) {
	use := func(a, b []int) {
		checkLength(t, a, b, defined(a, b))
	}
	two([]int{1, 2}, 7, use)
	two([]int{-1, 0, 3}, 4, use)
	two([]int{lowest, -1, 0, highest}, 3, use)
}

// P14.1 and P14.2: longer lists, of few numbers and of many.
func TestManyLists(t *testing.T) {
	r := rand.New(rand.NewSource(141))
	for round := range 600 {
		kinds := 1 + r.Intn(1+round%40)
		a, b := some(r, 40, kinds), some(r, 40, kinds)
		check(t, a, b)
		check(t, a, changed(r, a, r.Intn(10), kinds))
		check(t, a, b[:len(b)/5])
		check(t, b[:len(b)/5], a)
	}
	for round := range 60 {
		kinds := 1 + r.Intn(1+3*round)
		a, b := some(r, 400, kinds), some(r, 400, kinds)
		check(t, a, b)
		check(t, a, changed(r, a, r.Intn(40), kinds))
	}
}

// P14.1: L as package grid has it.
func TestAsGrid(t *testing.T) {
	r := rand.New(rand.NewSource(142))
	for range 300 {
		a, b := some(r, 60, 6), some(r, 60, 6)
		checkLength(t, a, b, grid.Len(a, b))
		checkLength(t, a, b, grid.Len(reversed(a), reversed(b)))
	}
}

// P14.1: lengths just below, at and just above a multiple of each side, of one
// list and of both.
func TestMultiplesOfTheSide(t *testing.T) {
	r := rand.New(rand.NewSource(143))
	for side := 1; side <= largest; side++ {
		var lengths []int
		for _, times := range []int{1, 2, 3, 7} {
			lengths = append(lengths, max(0, times*side-1), times*side, times*side+1)
		}
		for _, n := range lengths {
			for _, m := range lengths {
				a, b := exactly(r, n, 3), exactly(r, m, 3)
				check(t, a, b)
				check(t, counted(n, 0), counted(m, 0))
				check(t, counted(n, 0), counted(m, n-m))
				check(t, counted(n, 0), counted(m, -m))
				check(t, make([]int, n), make([]int, m))
			}
		}
	}
}

// P14.1: lists of very different lengths.
func TestDifferentLengths(t *testing.T) {
	r := rand.New(rand.NewSource(144))
	for n := range 8 {
		for _, m := range []int{50, 997, 3000, 3001, 3002} {
			long := exactly(r, m, 9)
			for _, short := range [][]int{exactly(r, n, 9), long[m-n:], long[:n], counted(n, 100)} {
				check(t, short, long)
				check(t, long, short)
			}
		}
	}
}

// P14.1: numbers that one may pad blocks with: in any lists, what is beyond
// their ends equals none of them.
func TestPaddingIsEqualToNothing(t *testing.T) {
	for _, x := range []int{lowest, lowest + 1, -1 << 32, -4, -3, -2, -1, 0, 1, 2, 3, 1 << 31, 1 << 32, highest - 1, highest} {
		for n := range 8 {
			for m := range 8 {
				a, b := slices.Repeat([]int{x}, n), slices.Repeat([]int{x}, m)
				checkLength(t, a, b, min(n, m))
				checkLength(t, append(a, 77), append(b, 78), min(n, m))
				checkLength(t, append([]int{77}, a...), append([]int{78}, b...), min(n, m))
				checkLength(t, a, slices.Repeat([]int{x + 1}, m), 0)
				checkLength(t, a, slices.Repeat([]int{^x}, m), 0)
			}
		}
	}
	for _, pair := range [][2]int{{0, 1 << 32}, {0, 256}, {lowest, 0}, {lowest, highest}, {1, 1 + 1<<32}, {-1, 1<<32 - 1}, {1 << 31, -1 << 31}} {
		checkLength(t, pair[:1], pair[1:], 0)
		checkLength(t, []int{pair[0], pair[1]}, []int{pair[1], pair[0]}, 1)
	}
}

// P14.1: what is in the spare capacity of a list is no part of it.
func TestSpareCapacityIsNoPart(t *testing.T) {
	whole := []int{1, 2, 3, 1, 2, 3, 1, 2, 3}
	for n := range whole {
		for m := range whole {
			checkLength(t, whole[:n], whole[:m], min(n, m))
			check(t, whole[n:], whole[:m])
		}
	}
}

// P14.2: Len is the same with every side, for lists of many lengths.
func TestSideDoesNotMatter(t *testing.T) {
	r := rand.New(rand.NewSource(145))
	for n := range 30 {
		for m := range 30 {
			a, b := exactly(r, n, 4), exactly(r, m, 4)
			want, e := russ.Len(all[0], a, b)
			for _, x := range all {
				if got, f := russ.Len(x, a, b); got != want || f != api.OK || e != api.OK {
					t.Fatalf("P14.2: Len(%d, %d): %d, %d with side %d, %d, %d with side 1", a, b, got, f, x.Side(), want, e)
				}
			}
		}
	}
}

// P14.1: long lists whose L is known.
func TestLongLists(t *testing.T) {
	const n = 1000
	rising, equal := counted(n, 0), make([]int, n)
	checkLength(t, rising, slices.Clone(rising), n)
	checkLength(t, equal, slices.Clone(equal), n)
	checkLength(t, rising, reversed(rising), 1)
	checkLength(t, rising, counted(n, n), 0)
	checkLength(t, rising, rising[n/3:], n-n/3)
	checkLength(t, equal[n/3:], equal, n-n/3)
	checkLength(t, slices.Concat(rising[n/2:], rising[:n/2]), rising, n/2)
	checkSteps(t, rising, equal, []int64{1000000, 250000, 334 * 334})
	checkSteps(t, rising, rising[:n-1], []int64{999000, 250000, 334 * 333})
}

// P14.1: the only longest list of pairs of a list with itself is the diagonal.
func TestOnlyList(t *testing.T) {
	for n := range 20 {
		for _, a := range [][]int{counted(n, -5), make([]int, n)} {
			for _, x := range all {
				l, _, e := russ.Run(x, a, slices.Clone(a))
				if len(l) != n || e != api.OK {
					t.Fatalf("P14.1: side %d: Run(%d, the same): %v, %d", x.Side(), a, l, e)
				}
				for k, p := range l {
					if p != (api.Pair{I: k, J: k}) {
						t.Fatalf("P14.1: side %d: Run(%d, the same): %v", x.Side(), a, l)
					}
				}
			}
		}
	}
}

// P14.1 at the limit: a long list beside a short one and beside none.
func TestLimit(t *testing.T) {
	long, equal := counted(limit, 0), make([]int, limit)
	for _, c := range []struct {
		a, b []int
		want int
	}{
		{long, nil, 0}, {long, []int{}, 0},
		{long, long[:1], 1}, {long, long[limit-1:], 1}, {long, []int{-1}, 0}, {long, []int{limit}, 0},
		{equal, equal[:2], 2}, {long, []int{limit - 1, 6, 8, 7}, 2},
	} {
		checkLength(t, c.a, c.b, c.want)
		checkLength(t, c.b, c.a, c.want)
	}
	checkSteps(t, long, equal[:1], []int64{1048576, 524288, 349526})
	checkSteps(t, equal[:2], long, []int64{2097152, 524288, 349526})
}

// R1: no arguments make a call panic, also above the limit.
func TestNoPanic(t *testing.T) {
	two([]int{lowest, 0, highest}, 4, func(a, b []int) {
		for _, x := range all {
			russ.Len(x, a, b)
			russ.Run(x, a, b)
		}
	})
	long := make([]int, limit+2)
	for _, short := range [][]int{nil, {}, {0}, {1}, {1, 0}} {
		for _, x := range all {
			russ.Len(x, long, short)
			russ.Len(x, short, long)
			russ.Run(x, long, short)
			russ.Run(x, short, long)
		}
	}
}

// R4: no call modifies an argument or its spare capacity, and no change of a
// result changes one.
func TestArgumentsStay(t *testing.T) {
	a, b := []int{1, 2, 1, 3, 1, 2, 2, 1}, []int{2, 1, 1, 3, 1, 2, 3}
	keptA, keptB := slices.Clone(a), slices.Clone(b)
	for n := range len(a) + 1 {
		for m := range len(b) + 1 {
			check(t, a[:n], b[:m])
			check(t, a[n:], b[m:])
			check(t, a[n:], a[:n])
			for _, x := range all {
				l, _, _ := russ.Run(x, a[:n], b[:m])
				fill(l, api.Pair{I: -7, J: -7})
				russ.Len(nil, a[:n], b[:m])
				russ.Run(nil, a[:n], b[:m])
			}
			if !slices.Equal(a, keptA) || !slices.Equal(b, keptB) {
				t.Fatalf("R4: a list was modified: %d, %d", a, b)
			}
		}
	}
}

// R4 and R5: results are new memory each time: whoever changes one, or an
// argument, changes no other result.
func TestResultsAreNew(t *testing.T) {
	for _, c := range [][2][]int{{{1}, {1}}, {{1, 2}, {2, 1}}, {{1, 2, 3, 2}, {1, 2, 4, 3, 2}}, {{5, 5, 5, 5, 5}, {5, 5, 5}}, {{6, 1, 2, 3}, {7, 1, 2, 3}}, {nil, {1}}, {nil, nil}} {
		for _, x := range all {
			a, b := slices.Clone(c[0]), slices.Clone(c[1])
			want := length(a, b)
			first, _, _ := russ.Run(x, a, b)
			second, _, _ := russ.Run(x, a, b)
			kept := slices.Clone(second)
			fill(first, api.Pair{I: -7, J: -7})
			fill(append(first, api.Pair{I: -8, J: -8}), api.Pair{I: -8, J: -8})
			third, _, _ := russ.Run(x, a, b)
			fill(a, -9)
			fill(b, -10)
			if !slices.Equal(second, kept) || !slices.Equal(third, kept) || !good(c[0], c[1], third) || len(third) != want {
				t.Errorf("R4: side %d: Run(%d, %d): %v, then %v, %v", x.Side(), c[0], c[1], kept, second, third)
			}
			checkOne(t, x, a, b, 0)
			checkOne(t, x, c[0], c[1], want)
		}
	}
}

// R5: answers hang on the arguments alone: the lists may be one piece of
// memory or several, and what was asked before does not matter.
func TestAnswersStay(t *testing.T) {
	whole := []int{1, 1, 2, 1, 1, 2, 3}
	for range 4 {
		check(t, whole, whole)
		check(t, whole[:3], whole[3:])
		check(t, whole[3:], whole[:3])
		check(t, whole[1:5], whole[2:])
		check(t, nil, whole)
		check(t, whole, nil)
		check(t, slices.Clone(whole), whole[2:])
	}
}

// R5: an object answers the same whether it is new or was used, and the same
// call has the same list each time.
func TestTilesUsedAgain(t *testing.T) {
	r := rand.New(rand.NewSource(146))
	for side := 1; side <= largest; side++ {
		used := made(side)
		for range 200 {
			a, b := some(r, 12, 3), some(r, 12, 3)
			fresh := made(side)
			first, _, _ := russ.Run(fresh, a, b)
			for _, x := range []*tile.Tiles{fresh, used, used} {
				checkOne(t, x, a, b, length(a, b))
				if l, _, _ := russ.Run(x, a, b); !slices.Equal(l, first) {
					t.Fatalf("R5: side %d: Run(%d, %d): %v, then %v", side, a, b, first, l)
				}
			}
			if used.Side() != side || used.Size() != fresh.Size() {
				t.Fatalf("R5: side %d: Side %d, Size %d", side, used.Side(), used.Size())
			}
		}
	}
}

// R5: many goroutines with one object, which is new to all of them.
func TestManyAtOnce(t *testing.T) {
	for round := range 60 {
		x := made(round%largest + 1)
		var group sync.WaitGroup
		start := make(chan bool)
		faults := make([]string, 8)
		for g := range faults {
			group.Go(func() {
				r := rand.New(rand.NewSource(int64(100*round + g)))
				<-start
				for range 20 {
					a, b := some(r, 20, 3), some(r, 20, 3)
					if f := fault(x, a, b, length(a, b)); f != "" {
						faults[g] = f
					}
				}
			})
		}
		close(start)
		group.Wait()
		for g, f := range faults {
			if f != "" {
				t.Fatalf("R5: side %d, goroutine %d: %s", x.Side(), g, f)
			}
		}
	}
}
