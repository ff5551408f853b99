package thresh_test

import (
	"math"
	"math/rand"
	"slices"
	"sync"
	"testing"

	"tatting/api"
	"tatting/grid"
	"tatting/thresh"
)

const (
	lowest  = math.MinInt
	highest = math.MaxInt
	limit   = api.MaxTokens
)

// wide has numbers at the ends of the range of an int, about 0 and where fewer
// bits end, in ascending order.
var wide = []int{lowest, lowest + 1, -1 << 32, -1<<31 - 1, -7, -1, 0, 1, 1 << 31, 1<<32 + 1, highest - 1, highest}

// find counts, as P15.1 words it.
func find(t []int, j int) int {
	n := 0
	for _, x := range t {
		if x < j {
			n++
		}
	}
	return n
}

// put follows the words of P15.1.
func put(t []int, j int) ([]int, int) {
	k := find(t, j)
	var l []int
	l = append(l, t[:k]...)
	l = append(l, j)
	if k < len(t) {
		l = append(l, t[k+1:]...)
	}
	return l, k
}

// row follows the words of P15.1.
func row(t, js []int) []int {
	for k := len(js) - 1; k >= 0; k-- {
		t, _ = put(t, js[k])
	}
	return t
}

// defined follows the definition of L in chapter 8.
func defined(a, b []int) int {
	if len(a) == 0 || len(b) == 0 {
		return 0
	}
	if a[0] == b[0] {
		return 1 + defined(a[1:], b[1:])
	}
	return max(defined(a[1:], b), defined(a, b[1:]))
}

// length has L: the greatest length of a chain of pairs, kept by the end of
// the chain in b.
func length(a, b []int) int {
	ends := make([]int, len(b))
	for _, x := range a {
		before := 0
		for j, y := range b {
			chain := before + 1
			before = max(before, ends[j])
			if x == y {
				ends[j] = max(ends[j], chain)
			}
		}
	}
	n := 0
	for _, e := range ends {
		n = max(n, e)
	}
	return n
}

// thresholds follows the words of P15.2, with l for L.
func thresholds(l func(a, b []int) int, a, b []int) []int {
	var t []int
	for k := range l(a, b) {
		j := 0
		for l(a, b[:j+1]) != k+1 {
			j++
		}
		t = append(t, j)
	}
	return t
}

// indices returns where x is in b, in ascending order.
func indices(x int, b []int) []int {
	var l []int
	for j, y := range b {
		if x == y {
			l = append(l, j)
		}
	}
	return l
}

// steps returns the lists that Row has, from an empty one on, for each number
// of a with its indices in b.
func steps(a, b []int) [][]int {
	l := [][]int{nil}
	for _, x := range a {
		l = append(l, thresh.Row(l[len(l)-1], indices(x, b)))
	}
	return l
}

// ascending calls use with every strictly ascending list of some of the
// elements, which ascend.
func ascending(elements []int, use func([]int)) {
	for set := range 1 << len(elements) {
		var l []int
		for k, x := range elements {
			if set>>k&1 == 1 {
				l = append(l, x)
			}
		}
		use(l)
	}
}

// lists calls use with every list of up to length of the given elements.
func lists(elements []int, length int, use func([]int)) {
	last := [][]int{nil}
	use(nil)
	for range length {
		var next [][]int
		for _, l := range last {
			for _, e := range elements {
				next = append(next, append(slices.Clone(l), e))
			}
		}
		for _, l := range next {
			use(l)
		}
		last = next
	}
}

// counted returns n numbers from first on, so far from each other.
func counted(n, first, step int) []int {
	l := make([]int, n)
	for i := range l {
		l[i] = first + i*step
	}
	return l
}

// some returns up to length numbers out of few, about 0.
func some(r *rand.Rand, length, kinds int) []int {
	l := make([]int, r.Intn(length+1))
	for i := range l {
		l[i] = r.Intn(kinds) - kinds/2
	}
	return l
}

// rising returns up to length numbers out of few, about 0, in strictly
// ascending order.
func rising(r *rand.Rand, length, kinds int) []int {
	l := some(r, length, kinds)
	slices.Sort(l)
	return slices.Compact(l)
}

// fill overwrites a list and its spare capacity.
func fill(l []int, with int) {
	l = l[:cap(l)]
	for i := range l {
		l[i] = with
	}
}

// roomy returns a copy of l with spare capacity, which holds a number of its
// own.
func roomy(l []int) []int {
	whole := make([]int, len(l)+5)
	fill(whole, 77)
	copy(whole, l)
	return whole[:len(l)]
}

// stayed reports whether a list that roomy made is as it was, with its spare
// capacity.
func stayed(l, was []int) bool {
	return slices.Equal(l[:cap(l)], roomy(was)[:len(was)+5])
}

// checkPut holds Find and Put against P15.1.
func checkPut(t *testing.T, l []int, j int) {
	t.Helper()
	if got, want := thresh.Find(l, j), find(l, j); got != want {
		t.Fatalf("P15.1: Find(%d, %d): %d, not %d", l, j, got, want)
	}
	want, at := put(l, j)
	if got, k := thresh.Put(l, j); !slices.Equal(got, want) || k != at {
		t.Fatalf("P15.1: Put(%d, %d): %d, %d, not %d, %d", l, j, got, k, want, at)
	}
}

// checkRow holds Row against P15.1, both in its words and by Put itself.
func checkRow(t *testing.T, l, js []int) {
	t.Helper()
	byPut := l
	for k := len(js) - 1; k >= 0; k-- {
		byPut, _ = thresh.Put(byPut, js[k])
	}
	if got, want := thresh.Row(l, js), row(l, js); !slices.Equal(got, want) || !slices.Equal(got, byPut) {
		t.Fatalf("P15.1: Row(%d, %d): %d, not %d; by Put %d", l, js, got, want, byPut)
	}
}

// checkThresholds holds what Row has number by number against P15.2, with l
// for L.
func checkThresholds(t *testing.T, l func(a, b []int) int, a, b []int) {
	t.Helper()
	for i, got := range steps(a, b) {
		if want := thresholds(l, a[:i], b); !slices.Equal(got, want) {
			t.Fatalf("P15.2: thresholds of %d and %d: %d, not %d", a[:i], b, got, want)
		}
	}
}

// P15.1: the examples of the chapter.
func TestExamples(t *testing.T) {
	if l, k := thresh.Put([]int{2, 5, 9}, 4); !slices.Equal(l, []int{2, 4, 9}) || k != 1 {
		t.Errorf("P15.1: Put(2 5 9, 4): %d, %d", l, k)
	}
	if l := thresh.Row([]int{3}, []int{1, 2, 3}); !slices.Equal(l, []int{1}) {
		t.Errorf("P15.1: Row(3, 1 2 3): %d", l)
	}
}

// P15.1: the edges of Find and Put, told.
func TestPutTold(t *testing.T) {
	for _, c := range []struct {
		t    []int
		j    int
		want []int
		k    int
	}{
		// An empty list.
		{nil, 4, []int{4}, 0}, {[]int{}, 4, []int{4}, 0}, {nil, 0, []int{0}, 0}, {nil, -3, []int{-3}, 0}, {nil, lowest, []int{lowest}, 0}, {[]int{}, highest, []int{highest}, 0},

		// A list of one number.
		{[]int{4}, 3, []int{3}, 0}, {[]int{4}, 4, []int{4}, 0}, {[]int{4}, 5, []int{4, 5}, 1}, {[]int{0}, -1, []int{-1}, 0}, {[]int{0}, 0, []int{0}, 0}, {[]int{0}, 1, []int{0, 1}, 1},

		// In front of all, between two, behind all.
		{[]int{2, 5, 9}, 0, []int{0, 5, 9}, 0}, {[]int{2, 5, 9}, 1, []int{1, 5, 9}, 0}, {[]int{2, 5, 9}, 3, []int{2, 3, 9}, 1}, {[]int{2, 5, 9}, 6, []int{2, 5, 6}, 2}, {[]int{2, 5, 9}, 8, []int{2, 5, 8}, 2}, {[]int{2, 5, 9}, 10, []int{2, 5, 9, 10}, 3}, {[]int{2, 5, 9}, 1 << 40, []int{2, 5, 9, 1 << 40}, 3},

		// A number that is there.
		{[]int{2, 5, 9}, 2, []int{2, 5, 9}, 0}, {[]int{2, 5, 9}, 5, []int{2, 5, 9}, 1}, {[]int{2, 5, 9}, 9, []int{2, 5, 9}, 2},

		// Below 0, and at the ends of the range.
		{[]int{-9, -5, -2}, -7, []int{-9, -7, -2}, 1}, {[]int{-9, -5, -2}, -10, []int{-10, -5, -2}, 0}, {[]int{-9, -5, -2}, -1, []int{-9, -5, -2, -1}, 3},
		{[]int{lowest, highest}, lowest, []int{lowest, highest}, 0}, {[]int{lowest, highest}, 0, []int{lowest, 0}, 1}, {[]int{lowest, highest}, highest, []int{lowest, highest}, 1}, {[]int{lowest}, highest, []int{lowest, highest}, 1}, {[]int{highest}, lowest, []int{lowest}, 0}, {[]int{lowest + 1}, lowest, []int{lowest}, 0}, {[]int{highest - 1}, highest, []int{highest - 1, highest}, 1},
	} {
		if l, k := thresh.Put(c.t, c.j); !slices.Equal(l, c.want) || k != c.k {
			t.Errorf("P15.1: Put(%d, %d): %d, %d, not %d, %d", c.t, c.j, l, k, c.want, c.k)
		}
		if k := thresh.Find(c.t, c.j); k != c.k {
			t.Errorf("P15.1: Find(%d, %d): %d, not %d", c.t, c.j, k, c.k)
		}
	}
}

// P15.1: the edges of Row, told.
func TestRowTold(t *testing.T) {
	for _, c := range []struct{ t, js, want []int }{
		// One or both lists empty.
		{nil, nil, nil}, {[]int{}, nil, nil}, {nil, []int{}, nil}, {[]int{}, []int{}, nil},
		{[]int{4}, nil, []int{4}}, {[]int{2, 5, 9}, []int{}, []int{2, 5, 9}}, {[]int{lowest, highest}, nil, []int{lowest, highest}},
		{nil, []int{4}, []int{4}}, {nil, []int{1, 4, 6}, []int{1}}, {[]int{}, []int{lowest, highest}, []int{lowest}},

		// One number.
		{[]int{2, 5, 9}, []int{0}, []int{0, 5, 9}}, {[]int{2, 5, 9}, []int{4}, []int{2, 4, 9}}, {[]int{2, 5, 9}, []int{5}, []int{2, 5, 9}}, {[]int{2, 5, 9}, []int{11}, []int{2, 5, 9, 11}},

		// Several: each has its place, or one place has several.
		{[]int{2, 6}, []int{1, 4, 8}, []int{1, 4, 8}}, {[]int{2, 6, 9}, []int{3, 4, 5}, []int{2, 3, 9}}, {[]int{2, 6, 9}, []int{0, 1, 7, 8, 10, 11}, []int{0, 6, 7, 10}}, {[]int{3, 6}, []int{7, 8, 9}, []int{3, 6, 7}},

		// Numbers that are there.
		{[]int{2, 5, 9}, []int{2, 5, 9}, []int{2, 5, 9}}, {[]int{2, 5, 9}, []int{2, 3, 9}, []int{2, 3, 9}},

		// In another order: the last one still comes first.
		{nil, []int{3, 2, 1}, []int{1, 2, 3}}, {nil, []int{2, 3, 1}, []int{1, 2}}, {nil, []int{7, 7, 7}, []int{7}}, {[]int{5}, []int{9, 1}, []int{1, 9}}, {[]int{5}, []int{1, 9}, []int{1, 9}}, {[]int{3}, []int{3, 2, 1}, []int{1, 2, 3}},

		// Below 0, and at the ends of the range.
		{[]int{-5}, []int{-9, -7, -1}, []int{-9, -1}}, {[]int{lowest, highest}, []int{lowest, 0, highest}, []int{lowest, 0}}, {[]int{0}, []int{lowest, highest}, []int{lowest, highest}}, {[]int{lowest}, []int{highest - 1, highest}, []int{lowest, highest - 1}},
	} {
		if got := thresh.Row(c.t, c.js); !slices.Equal(got, c.want) {
			t.Errorf("P15.1: Row(%d, %d): %d, not %d", c.t, c.js, got, c.want)
		}
		checkRow(t, c.t, c.js)
	}
}

// P15.1: Find and Put at every place of every ascending list of few numbers.
func TestEveryPlace(t *testing.T) {
	ascending([]int{-4, -2, 0, 2, 4, 6, 8, 10, 12}, func(l []int) {
		for j := -6; j <= 14; j++ {
			checkPut(t, l, j)
		}
	})
	ascending(wide, func(l []int) {
		for _, j := range wide {
			checkPut(t, l, j)
		}
	})
}

// P15.1: Row of every ascending list of few numbers, with every list of few
// numbers, which need not ascend.
func TestEveryRow(t *testing.T) {
	ascending([]int{-1, 1, 3, 5}, func(l []int) {
		lists([]int{-2, -1, 0, 1, 2, 3, 4, 5, 6}, 3, func(js []int) {
			checkRow(t, l, js)
		})
		ascending([]int{-2, -1, 0, 1, 2, 3, 4, 5, 6}, func(js []int) {
			checkRow(t, l, js)
		})
	})
	ends := []int{lowest, lowest + 1, 0, highest - 1, highest}
	ascending(ends, func(l []int) {
		lists(ends, 3, func(js []int) {
			checkRow(t, l, js)
		})
	})
}

// P15.1: longer lists.
func TestManyLists(t *testing.T) {
	r := rand.New(rand.NewSource(151))
	for range 400 {
		kinds := 1 + r.Intn(300)
		l := rising(r, 150, kinds)
		for range 30 {
			checkPut(t, l, r.Intn(kinds+6)-kinds/2-3)
		}
		checkRow(t, l, rising(r, 150, kinds))
		checkRow(t, l, some(r, 150, kinds))
		checkRow(t, l, l)
	}
}

// P15.1: what is in the spare capacity of a list is no part of it.
func TestSpareCapacityIsNoPart(t *testing.T) {
	whole := []int{1, 3, 5, 7, 9, 11}
	for n := range whole {
		for m := range whole {
			for j := range 13 {
				checkPut(t, whole[m:max(n, m)], j)
			}
			checkRow(t, whole[:n], whole[:m])
			checkRow(t, whole[:n], whole[m:])
		}
	}
}

// P15.1: lists at the limit.
func TestAtTheLimit(t *testing.T) {
	even, odd := counted(limit, 0, 2), counted(limit, 1, 2)
	for _, k := range []int{0, 1, 2, limit / 2, limit - 2, limit - 1} {
		for _, j := range []int{2*k - 1, 2 * k} {
			want := slices.Clone(even)
			want[k] = j
			if l, at := thresh.Put(even, j); !slices.Equal(l, want) || at != k || thresh.Find(even, j) != k {
				t.Errorf("P15.1: Put(even numbers, %d): %d numbers, %d", j, len(l), at)
			}
		}
	}
	if l, at := thresh.Put(even, highest); !slices.Equal(l, append(slices.Clone(even), highest)) || at != limit || thresh.Find(even, highest) != limit {
		t.Errorf("P15.1: Put(even numbers, %d): %d numbers, %d", highest, len(l), at)
	}
	for _, c := range []struct {
		name        string
		t, js, want []int
	}{
		{"even and odd numbers", even, odd, append([]int{0}, odd...)},
		{"odd and even numbers", odd, even, even},
		{"even numbers twice", even, even, even},
		{"none and even numbers", nil, even, []int{0}},
		{"even numbers and none", even, nil, even},
	} {
		if got := thresh.Row(c.t, c.js); !slices.Equal(got, c.want) {
			t.Errorf("P15.1: Row of %s: %d numbers, not %d", c.name, len(got), len(c.want))
		}
	}
}

// P15.2: thresholds of told lists, from an empty one on.
func TestThresholdsTold(t *testing.T) {
	for _, c := range []struct {
		a, b []int
		want [][]int
	}{
		// Nothing in one list, or nothing in common.
		{nil, nil, [][]int{nil}}, {nil, []int{1, 2}, [][]int{nil}}, {[]int{1, 2}, nil, [][]int{nil, nil, nil}}, {[]int{1, 2}, []int{3, 4, 3}, [][]int{nil, nil, nil}},

		// One number in b, and one number everywhere.
		{[]int{4}, []int{4}, [][]int{nil, {0}}}, {[]int{5, 4, 4}, []int{4}, [][]int{nil, nil, {0}, {0}}}, {[]int{4, 4, 4}, []int{4, 4}, [][]int{nil, {0}, {0, 1}, {0, 1}}},

		// Both in order, and one in order and the other against it.
		{[]int{1, 2, 3}, []int{1, 2, 3}, [][]int{nil, {0}, {0, 1}, {0, 1, 2}}}, {[]int{1, 2, 3}, []int{3, 2, 1}, [][]int{nil, {2}, {1}, {0}}},

		{[]int{1, 2, 1, 3}, []int{2, 1, 3, 1}, [][]int{nil, {1}, {0}, {0, 1}, {0, 1, 2}}}, {[]int{3, 1, 2}, []int{1, 2, 3, 1, 2}, [][]int{nil, {2}, {0, 3}, {0, 1, 4}}},
	} {
		for i, got := range steps(c.a, c.b) {
			if !slices.Equal(got, c.want[i]) {
				t.Errorf("P15.2: thresholds of %d and %d: %d, not %d", c.a[:i], c.b, got, c.want[i])
			}
		}
		checkThresholds(t, defined, c.a, c.b)
	}
}

// P15.2: every two lists of few numbers of few kinds.
func TestThresholdsOfShortLists(t *testing.T) {
	for _, c := range []struct {
		elements []int
		length   int
	}{{[]int{1, 2}, 5}, {[]int{-1, 0, 3}, 4}, {[]int{lowest, -1, 0, highest}, 3}} {
		lists(c.elements, c.length, func(b []int) {
			lists(c.elements, c.length, func(a []int) {
				got := steps(a, b)[len(a)]
				if want := thresholds(defined, a, b); !slices.Equal(got, want) {
					t.Fatalf("P15.2: thresholds of %d and %d: %d, not %d", a, b, got, want)
				}
			})
		})
	}
}

// P15.2: longer lists, of few numbers and of many.
func TestThresholdsOfManyLists(t *testing.T) {
	r := rand.New(rand.NewSource(152))
	for round := range 100 {
		kinds := 1 + r.Intn(1+round%20)
		a, b := some(r, 20, kinds), some(r, 20, kinds)
		checkThresholds(t, length, a, b)
		checkThresholds(t, length, b, a)
		checkThresholds(t, length, a, a)
	}
}

// P15.2: L as package grid has it, for all beginnings of both lists at once.
func TestThresholdsAsGrid(t *testing.T) {
	r := rand.New(rand.NewSource(153))
	for round := range 60 {
		kinds := 1 + r.Intn(1+round)
		a, b := some(r, 300, kinds), some(r, 300, kinds)
		ahead := grid.Ahead(a, b)
		for i, got := range steps(a, b) {
			var want []int
			for j := range b {
				if ahead[i][j+1] > ahead[i][j] {
					want = append(want, j)
				}
			}
			if !slices.Equal(got, want) {
				t.Fatalf("P15.2: thresholds of %d numbers of %d and %d: %d, not %d", i, a, b, got, want)
			}
		}
	}
}

// R1: in lists that do not ascend, and above the limit, a call still ends
// without a panic.
func TestNoPanic(t *testing.T) {
	long := make([]int, limit+1)
	falling := counted(limit+1, limit, -1)
	odd := [][]int{nil, {9, 4, 1}, {3, 3, 3}, {5, -1, 7, 0}, {highest, lowest}, {lowest, highest, lowest}, {0, 0}, long, falling, counted(limit+1, 0, 1)}
	for _, l := range odd {
		for _, j := range append([]int{2, 3, 4, 5, limit, limit + 1}, wide...) {
			thresh.Find(l, j)
			thresh.Put(l, j)
		}
		for _, js := range odd {
			thresh.Row(l, js)
		}
	}
	lists([]int{0, 1, 2}, 4, func(l []int) {
		for j := -1; j <= 3; j++ {
			thresh.Find(l, j)
			thresh.Put(l, j)
		}
		lists([]int{0, 1, 2}, 3, func(js []int) {
			thresh.Row(l, js)
		})
	})
}

// R4: no call modifies an argument or its spare capacity.
func TestArgumentsStay(t *testing.T) {
	for _, was := range [][]int{nil, {2}, {2, 5, 9}, {-3, 0, 4, 6, 11}, {9, 5, 2}, {4, 4, 4}} {
		for _, wasJs := range [][]int{nil, {4}, {1, 6, 7}, {12, 13}, {7, 3, 1}} {
			l, js := roomy(was), roomy(wasJs)
			thresh.Row(l, js)
			for j := -4; j <= 13; j++ {
				thresh.Find(l, j)
				thresh.Put(l, j)
			}
			if !stayed(l, was) || !stayed(js, wasJs) {
				t.Errorf("R4: %d or %d was modified: %d, %d", was, wasJs, l[:cap(l)], js[:cap(js)])
			}
		}
	}
}

// R4: results, with their spare capacity, share memory neither with an
// argument nor with another result.
func TestResultsAreNew(t *testing.T) {
	for _, was := range [][]int{nil, {2}, {2, 5, 9}, {-3, 0, 4, 6, 11}} {
		for _, wasJs := range [][]int{nil, {4}, {1, 6, 7}, {12, 13}, {7, 3, 1}} {
			for j := -4; j <= 13; j++ {
				l, js := roomy(was), roomy(wasJs)
				results := func() [][]int {
					p, _ := thresh.Put(l, j)
					return [][]int{p, thresh.Row(l, js)}
				}
				first, second := results(), results()
				for _, x := range first {
					fill(x, -7)
					fill(append(x, -8), -8)
				}
				if !stayed(l, was) || !stayed(js, wasJs) {
					t.Fatalf("R4: Put or Row of %d, %d and %d shares memory with it", was, j, wasJs)
				}
				third := results()
				fill(l, -9)
				fill(js, -10)
				want, _ := put(was, j)
				for _, x := range [][][]int{second, third} {
					if !slices.Equal(x[0], want) || !slices.Equal(x[1], row(was, wasJs)) {
						t.Fatalf("R4: Put or Row of %d, %d and %d: a result changes with another list: %d", was, j, wasJs, x)
					}
				}
			}
		}
	}
}

// R5: answers hang on the arguments alone: the lists may be one piece of
// memory, and what was asked before does not matter.
func TestAnswersStay(t *testing.T) {
	whole := []int{-2, 1, 3, 4, 7, 8, 12}
	for range 4 {
		for n := range len(whole) + 1 {
			for m := range len(whole) + 1 {
				checkRow(t, whole[:n], whole[m:])
				checkRow(t, whole[m:], whole[:n])
				checkRow(t, whole[:n], whole[:m])
			}
			for _, j := range whole {
				checkPut(t, whole[:n], j)
				checkPut(t, whole[n:], j)
			}
		}
	}
}

// R5: many goroutines with the same lists.
func TestManyAtOnce(t *testing.T) {
	r := rand.New(rand.NewSource(154))
	for range 40 {
		l, js := roomy(rising(r, 60, 90)), roomy(some(r, 60, 90))
		was, wasJs := slices.Clone(l), slices.Clone(js)
		var group sync.WaitGroup
		start := make(chan bool)
		faults := make([]string, 8)
		for g := range faults {
			group.Go(func() {
				<-start
				for j := -46; j < 46; j++ {
					if want, at := put(was, j); thresh.Find(l, j) != at {
						faults[g] = "Find"
					} else if p, k := thresh.Put(l, j); !slices.Equal(p, want) || k != at {
						faults[g] = "Put"
					}
				}
				if !slices.Equal(thresh.Row(l, js), row(was, wasJs)) {
					faults[g] = "Row"
				}
			})
		}
		close(start)
		group.Wait()
		for g, f := range faults {
			if f != "" {
				t.Fatalf("R5: goroutine %d: %s of %d and %d", g, f, was, wasJs)
			}
		}
	}
}
