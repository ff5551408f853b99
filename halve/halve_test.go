package halve_test

import (
	"math"
	"math/rand"
	"runtime"
	"slices"
	"strconv"
	"testing"

	"tatting/api"
	"tatting/halve"
)

const (
	lowest  = math.MinInt
	highest = math.MaxInt
	limit   = api.MaxTokens
)

// of makes a list of pairs of numbers, two and two.
func of(n ...int) []api.Pair {
	var l []api.Pair
	for k := 0; k+1 < len(n); k += 2 {
		l = append(l, api.Pair{I: n[k], J: n[k+1]})
	}
	return l
}

// length has L: the greatest length of a chain of pairs, kept by the end of
// the chain in b.
func length(a, b []int) int {
	ends := make([]int, len(b))
	for _, x := range a {
		before := 0
		for j, y := range b {
			chain := before + 1
			before = max(before, ends[j])
			if x == y {
				ends[j] = max(ends[j], chain)
			}
		}
	}
	n := 0
	for _, e := range ends {
		n = max(n, e)
	}
	return n
}

// defined follows the definition of L in chapter 8.
func defined(a, b []int) int {
	if len(a) == 0 || len(b) == 0 {
		return 0
	}
	if a[0] == b[0] {
		return 1 + defined(a[1:], b[1:])
	}
	return max(defined(a[1:], b), defined(a, b[1:]))
}

// good follows the words of chapter 7.
func good(a, b []int, l []api.Pair) bool {
	for k, p := range l {
		if p.I < 0 || p.I >= len(a) || p.J < 0 || p.J >= len(b) || a[p.I] != b[p.J] {
			return false
		}
		if k > 0 && (p.I <= l[k-1].I || p.J <= l[k-1].J) {
			return false
		}
	}
	return true
}

// sums has, for each j, the sum of which chapter 11 takes the greatest.
func sums(a, b []int) []int {
	half := len(a) / 2
	var l []int
	for j := range len(b) + 1 {
		l = append(l, length(a[:half], b[:j])+length(a[half:], b[j:]))
	}
	return l
}

// words follows the words of P11.1, for the part that begins at at.
func words(a, b []int, at api.Pair) ([]api.Pair, int64) {
	n, m := len(a), len(b)
	if n == 0 || m == 0 {
		return nil, 0
	}
	if n == 1 {
		for j := range m {
			if b[j] == a[0] {
				return of(at.I, at.J+j), int64(m)
			}
		}
		return nil, int64(m)
	}
	all := sums(a, b)
	half, j := n/2, slices.Index(all, slices.Max(all))
	x, s := words(a[:half], b[:j], at)
	y, t := words(a[half:], b[j:], api.Pair{I: at.I + half, J: at.J + j})
	return append(x, y...), int64(n)*int64(m) + s + t
}

// most follows the words of P11.1: it counts the digits as they are written.
func most(n, m int) int64 {
	if n < 1 || n > limit || m < 1 || m > limit {
		return 0
	}
	digits := len(strconv.FormatInt(int64(n), 2))
	return int64(m) * (int64(n) + int64(n) + int64(digits))
}

// lists calls use with every list of up to length of the given elements.
func lists(elements []int, length int, use func([]int)) {
	last := [][]int{nil}
	use(nil)
	for range length {
		var next [][]int
		for _, l := range last {
			for _, e := range elements {
				next = append(next, append(slices.Clone(l), e))
			}
		}
		for _, l := range next {
			use(l)
		}
		last = next
	}
}

// two calls use with every two lists of up to length of the given elements.
func two(elements []int, length int, use func(a, b []int)) {
	lists(elements, length, func(a []int) {
		lists(elements, length, func(b []int) {
			use(a, b)
		})
	})
}

// some returns up to length numbers out of few, about 0.
func some(r *rand.Rand, length, kinds int) []int {
	l := make([]int, r.Intn(length+1))
	for i := range l {
		l[i] = r.Intn(kinds) - kinds/2
	}
	return l
}

// changed returns a copy of l with so many numbers put in, left out or
// replaced.
func changed(r *rand.Rand, l []int, times, kinds int) []int {
	l = slices.Clone(l)
	for range times {
		at := r.Intn(len(l) + 1)
		switch r.Intn(3) {
		case 0:
			l = slices.Insert(l, at, r.Intn(kinds)-kinds/2)
		case 1:
			l = slices.Delete(l, at, min(at+1, len(l)))
		default:
			if at < len(l) {
				l[at] = r.Intn(kinds) - kinds/2
			}
		}
	}
	return l
}

// counted returns n numbers from first on.
func counted(n, first int) []int {
	l := make([]int, n)
	for i := range l {
		l[i] = first + i
	}
	return l
}

// reversed returns a copy from its end to its beginning.
func reversed(l []int) []int {
	l = slices.Clone(l)
	slices.Reverse(l)
	return l
}

// fill overwrites a list and its spare capacity.
func fill[E any](l []E, with E) {
	l = l[:cap(l)]
	for i := range l {
		l[i] = with
	}
}

// checkRun holds Run against the pairs and the steps that it should have.
func checkRun(t *testing.T, a, b []int, want []api.Pair, steps int64) {
	t.Helper()
	if l, n := halve.Run(a, b); !slices.Equal(l, want) || n != steps {
		t.Fatalf("P11.1: Run(%d, %d): %v, %d, not %v, %d", a, b, l, n, want, steps)
	}
}

// checkLongest holds Run against P11.2, with L as its length should be.
func checkLongest(t *testing.T, a, b []int, want int) {
	t.Helper()
	l, steps := halve.Run(a, b)
	if !good(a, b, l) {
		t.Fatalf("P11.2: Run(%d, %d): %v is not valid", a, b, l)
	}
	if len(l) != want {
		t.Fatalf("P11.2: Run(%d, %d): %v has not %d pairs", a, b, l, want)
	}
	if bound := halve.Most(len(a), len(b)); steps > bound || steps < 0 {
		t.Fatalf("P11.2: Run(%d, %d): %d steps, at most %d", a, b, steps, bound)
	}
}

// check holds Run of two lists against both promises.
func check(t *testing.T, a, b []int) {
	t.Helper()
	want, steps := words(a, b, api.Pair{})
	checkRun(t, a, b, want, steps)
	checkLongest(t, a, b, length(a, b))
}

// P11.1: the example of the chapter.
func TestExample(t *testing.T) {
	checkRun(t, []int{1, 2}, []int{2, 1}, of(1, 0), 6)
}

// P11.1: the edges, with the pairs and the steps told.
func TestEdges(t *testing.T) {
	for _, c := range []struct {
		a, b  []int
		want  []api.Pair
		steps int64
	}{
		// One or both lists empty.
		{nil, nil, nil, 0}, {nil, []int{}, nil, 0}, {[]int{}, nil, nil, 0}, {[]int{}, []int{}, nil, 0},
		{nil, []int{1}, nil, 0}, {[]int{1}, nil, nil, 0}, {[]int{}, []int{0, 0, 0}, nil, 0}, {[]int{0, 0, 0}, []int{}, nil, 0}, {[]int{1, 2}, nil, nil, 0},

		// One number in the first list: none, one and several equal ones.
		{[]int{4}, []int{5}, nil, 1}, {[]int{4}, []int{1, 2, 3}, nil, 3}, {[]int{4}, []int{4}, of(0, 0), 1}, {[]int{4}, []int{1, 2, 3, 4}, of(0, 3), 4},
		{[]int{4}, []int{4, 1, 2}, of(0, 0), 3}, {[]int{4}, []int{5, 4, 4}, of(0, 1), 3}, {[]int{4}, []int{4, 4, 4, 4}, of(0, 0), 4}, {[]int{4}, []int{5, 4, 5, 4}, of(0, 1), 4},
		{[]int{0}, []int{1, 2}, nil, 2}, {[]int{0}, []int{1, 0}, of(0, 1), 2},

		// One number in the second list. Of several equal ones the last one
		// is taken, as the first j leaves b to the second part.
		{[]int{1, 2}, []int{2}, of(1, 0), 3}, {[]int{1, 2}, []int{1}, of(0, 0), 3}, {[]int{1, 2}, []int{3}, nil, 3}, {[]int{1, 1}, []int{1}, of(1, 0), 3},
		{[]int{1, 1, 1}, []int{1}, of(2, 0), 6}, {[]int{1, 2, 3}, []int{1}, of(0, 0), 4}, {[]int{1, 2, 3}, []int{2}, of(1, 0), 6}, {[]int{1, 2, 3}, []int{3}, of(2, 0), 6},
		{[]int{1, 2, 3, 4}, []int{5}, nil, 7}, {[]int{1, 2, 3, 4, 5}, []int{9}, nil, 11}, {[]int{1, 2, 3, 4, 5}, []int{1}, of(0, 0), 8},

		// Two and three numbers: the same list, and nothing alike.
		{[]int{1, 2}, []int{1, 2}, of(0, 0, 1, 1), 6}, {[]int{1, 1}, []int{1, 1}, of(0, 0, 1, 1), 6}, {[]int{1, 2}, []int{3, 4}, nil, 6}, {[]int{5, 5}, []int{5, 5, 5}, of(0, 0, 1, 1), 9},
		{[]int{1, 2, 3}, []int{1, 2, 3}, of(0, 0, 1, 1, 2, 2), 16}, {[]int{1, 2, 3}, []int{4, 5, 6}, nil, 18}, {[]int{1, 2, 3}, []int{3, 2, 1}, of(2, 0), 18},

		// One list within the other.
		{[]int{2, 3}, []int{1, 2, 3, 4}, of(0, 1, 1, 2), 12}, {[]int{1, 2, 3, 4}, []int{2, 3}, of(1, 0, 2, 1), 14},
		{[]int{1, 4}, []int{1, 2, 3, 4}, of(0, 0, 1, 3), 12}, {[]int{1, 2, 3, 4}, []int{1, 4}, of(0, 0, 3, 1), 14},

		// Sums that are equal at several j.
		{[]int{1, 2, 3, 4}, []int{2, 9, 4, 3}, of(1, 0, 3, 2), 28}, {[]int{1, 2}, []int{1, 9, 9, 2}, of(0, 0, 1, 3), 12}, {[]int{1, 2}, []int{9, 9, 1, 9, 9}, of(0, 2), 15},

		// Numbers of any size.
		{[]int{-1}, []int{1}, nil, 1}, {[]int{-1, -2}, []int{-2, -1}, of(1, 0), 6}, {[]int{-1, -2}, []int{-1, -2}, of(0, 0, 1, 1), 6},
		{[]int{lowest}, []int{highest}, nil, 1}, {[]int{lowest, highest}, []int{lowest, highest}, of(0, 0, 1, 1), 6}, {[]int{highest}, []int{0, lowest, highest, highest}, of(0, 2), 4},
		{[]int{1}, []int{1 + 1<<32}, nil, 1}, {[]int{1 << 31}, []int{-1 << 31}, nil, 1}, {[]int{lowest}, []int{0}, nil, 1}, {[]int{256}, []int{0}, nil, 1},
	} {
		checkRun(t, c.a, c.b, c.want, c.steps)
		check(t, c.a, c.b)
	}
}

// P11.1 and P11.2: every two short lists.
func TestAllShortLists(t *testing.T) {
	use := func(a, b []int) {
		check(t, a, b)
		checkLongest(t, a, b, defined(a, b))
	}
	two([]int{1, 2}, 6, use)
	two([]int{-1, 0, 3}, 4, use)
	two([]int{lowest, -1, 0, highest}, 3, use)
}

// P11.1 and P11.2: longer lists, of few numbers and of many.
func TestManyLists(t *testing.T) {
	r := rand.New(rand.NewSource(111))
	for round := range 600 {
		kinds := 1 + r.Intn(1+round%40)
		a, b := some(r, 40, kinds), some(r, 40, kinds)
		check(t, a, b)
		check(t, a, changed(r, a, r.Intn(10), kinds))
		check(t, a, b[:len(b)/5])
		check(t, b[:len(b)/5], a)
	}
}

// P11.1: where the greatest sum is at several j, the least one divides b.
func TestEqualSums(t *testing.T) {
	r := rand.New(rand.NewSource(112))
	found := 0
	for range 2000 {
		a, b := some(r, 9, 3), some(r, 9, 3)
		all := sums(a, b)
		first := slices.Index(all, slices.Max(all))
		if len(a) < 2 || !slices.Contains(all[first+1:], all[first]) {
			continue
		}
		found++
		half := len(a) / 2
		x, s := words(a[:half], b[:first], api.Pair{})
		y, u := words(a[half:], b[first:], api.Pair{I: half, J: first})
		checkRun(t, a, b, append(x, y...), int64(len(a)*len(b))+s+u)
	}
	if found < 100 {
		t.Errorf("only %d lists had equal sums", found)
	}
}

// P11.2: longer lists than the words can be followed for.
func TestLongest(t *testing.T) {
	r := rand.New(rand.NewSource(113))
	for round := range 60 {
		kinds := 1 + r.Intn(1+3*round)
		a, b := some(r, 400, kinds), some(r, 400, kinds)
		checkLongest(t, a, b, length(a, b))
		c := changed(r, a, r.Intn(40), kinds)
		checkLongest(t, a, c, length(a, c))
	}
}

// P11.1 and P11.2: with nothing alike, the second and greater part has all of
// b, each time.
func TestNothingAlike(t *testing.T) {
	for n := range 300 {
		a := counted(n, 0)
		for _, m := range []int{1, 2, 3, 10} {
			want := int64(0)
			for k := n; k > 0; k -= k / 2 {
				want += int64(k) * int64(m)
				if k == 1 {
					break
				}
			}
			checkRun(t, a, counted(m, -m), nil, want)
			checkLongest(t, a, counted(m, -m), 0)
		}
	}
}

// P11.1: long lists whose pairs and steps are known.
func TestLongLists(t *testing.T) {
	const n = 1 << 10
	rising, equal := counted(n, 0), make([]int, n)
	diagonal := make([]api.Pair, n)
	for i := range diagonal {
		diagonal[i] = api.Pair{I: i, J: i}
	}
	// The same list twice divides into halves: n times n, then half of that,
	// and so on to n times 1.
	checkRun(t, rising, slices.Clone(rising), diagonal, 2*n*n-n)
	checkRun(t, equal, slices.Clone(equal), diagonal, 2*n*n-n)
	// The reverse leaves all of b to the second part, each time.
	checkRun(t, rising, reversed(rising), of(n-1, 0), 2*n*n-n)
	checkLongest(t, rising, reversed(rising), 1)
	checkLongest(t, rising, rising[n/3:], n-n/3)
	checkLongest(t, equal, equal[n/3:], n-n/3)
	checkLongest(t, slices.Concat(rising[n/2:], rising[:n/2]), rising, n/2)
}

// P11.1 and P11.2 at the limit: a long list beside a short one and beside
// none.
func TestLimit(t *testing.T) {
	long, equal := counted(limit, 0), make([]int, limit)
	for _, none := range [][]int{nil, {}} {
		checkRun(t, long, none, nil, 0)
		checkRun(t, none, long, nil, 0)
	}
	for _, c := range []struct {
		name  string
		a, b  []int
		want  []api.Pair
		steps int64
	}{
		{"the first number", long[:1], long, of(0, 0), limit},
		{"the last number", long[limit-1:], long, of(0, limit-1), limit},
		{"no number", []int{-1}, long, nil, limit},
		{"one of equal numbers", equal[:1], equal, of(0, 0), limit},
		{"two of equal numbers", equal[:2], equal, of(0, 0, 1, 1), 2*limit + 1 + limit - 1},
		{"its first number", long, long[:1], of(0, 0), 2*limit - 1},
		{"its last number", long, long[limit-1:], of(limit-1, 0), 2*limit - 1},
		{"a number that it has not", long, []int{-1}, nil, 2*limit - 1},
		{"a number of equal ones", equal, equal[:1], of(limit-1, 0), 2*limit - 1},
		{"numbers that it has not", long, []int{-1, -2, -3}, nil, 3 * (2*limit - 1)},
	} {
		l, steps := halve.Run(c.a, c.b)
		if !slices.Equal(l, c.want) || steps != c.steps {
			t.Errorf("P11.1: Run, %s: %v, %d, not %v, %d", c.name, l, steps, c.want, c.steps)
		}
		if bound := halve.Most(len(c.a), len(c.b)); steps > bound {
			t.Errorf("P11.2: Run, %s: %d steps, at most %d", c.name, steps, bound)
		}
	}
	short := []int{6, 8, 7, limit - 1}
	for _, c := range [][2][]int{{long, short}, {short, long}} {
		l, steps := halve.Run(c[0], c[1])
		if !good(c[0], c[1], l) || len(l) != 3 || steps > halve.Most(len(c[0]), len(c[1])) {
			t.Errorf("P11.2: Run of %d and %d numbers: %v, %d", len(c[0]), len(c[1]), l, steps)
		}
	}
}

// P11.1: Most at its edges, with the result told.
func TestMostEdges(t *testing.T) {
	for _, c := range []struct {
		n, m int
		want int64
	}{
		// Not from 1 to the limit.
		{0, 0, 0}, {0, 1, 0}, {1, 0, 0}, {0, 5, 0}, {5, 0, 0}, {-1, 5, 0}, {5, -1, 0}, {-1, -1, 0}, {-5, -5, 0},
		{lowest, 1, 0}, {1, lowest, 0}, {highest, 1, 0}, {1, highest, 0}, {lowest, lowest, 0}, {highest, highest, 0}, {lowest, highest, 0}, {highest, lowest, 0},
		{limit + 1, 1, 0}, {1, limit + 1, 0}, {limit + 1, limit, 0}, {limit, limit + 1, 0}, {limit + 1, limit + 1, 0}, {limit, 0, 0}, {0, limit, 0}, {1 << 32, 1, 0}, {1 + 1<<32, 1, 0}, {1, 1 + 1<<32, 0},

		// The least and the greatest.
		{1, 1, 3}, {1, 2, 6}, {2, 1, 6}, {1, limit, 3 * limit}, {limit, 1, 2*limit + 21}, {limit, limit, limit * (2*limit + 21)}, {limit - 1, limit, limit * (2*limit + 18)}, {limit, limit - 1, (limit - 1) * (2*limit + 21)},

		// At and beside powers of two.
		{3, 1, 8}, {4, 1, 11}, {5, 1, 13}, {7, 1, 17}, {8, 1, 20}, {9, 1, 22}, {5, 7, 7 * 13}, {7, 5, 5 * 17}, {255, 2, 1036}, {256, 2, 1042}, {257, 2, 1046},
	} {
		if got := halve.Most(c.n, c.m); got != c.want {
			t.Errorf("P11.1: Most(%d, %d): %d, not %d", c.n, c.m, got, c.want)
		}
	}
}

// P11.1: Most for many numbers, all powers of two among them.
func TestMost(t *testing.T) {
	numbers := []int{lowest, lowest + 1, -7, highest - 1, highest, limit - 2, limit + 2, 999999, 3 * limit}
	for k := range 62 {
		numbers = append(numbers, 1<<k-1, 1<<k, 1<<k+1, -1<<k)
	}
	for _, n := range numbers {
		for _, m := range numbers {
			if got, want := halve.Most(n, m), most(n, m); got != want {
				t.Fatalf("P11.1: Most(%d, %d): %d, not %d", n, m, got, want)
			}
		}
	}
	for n := range 3000 {
		if got, want := halve.Most(n, 3), most(n, 3); got != want {
			t.Fatalf("P11.1: Most(%d, 3): %d, not %d", n, got, want)
		}
	}
}

// The chapter's memory: rows, and no table of both lists.
func TestMemory(t *testing.T) {
	const n = 1500
	a, b := make([]int, n), make([]int, n)
	for i := range n {
		a[i], b[i] = i%5, i%7
	}
	var before, after runtime.MemStats
	runtime.ReadMemStats(&before)
	halve.Run(a, b)
	runtime.ReadMemStats(&after)
	if used := after.TotalAlloc - before.TotalAlloc; used > n*n {
		t.Errorf("Run of %d and %d numbers took %d bytes", n, n, used)
	}
}

// R1: no arguments make a call panic, also above the limit.
func TestNoPanic(t *testing.T) {
	two([]int{lowest, 0, highest}, 4, func(a, b []int) {
		halve.Run(a, b)
	})
	long := make([]int, limit+2)
	for _, short := range [][]int{nil, {}, {0}, {1}, {1, 0}} {
		halve.Run(long, short)
		halve.Run(short, long)
	}
}

// R4: no call modifies an argument or its spare capacity, which is no part of
// a list, and no change of a result changes one.
func TestArgumentsStay(t *testing.T) {
	a, b := []int{1, 2, 1, 3, 1, 2, 2}, []int{2, 1, 1, 3, 1, 2}
	keptA, keptB := slices.Clone(a), slices.Clone(b)
	for n := range len(a) + 1 {
		for m := range len(b) + 1 {
			want, steps := words(slices.Clone(keptA[:n]), slices.Clone(keptB[:m]), api.Pair{})
			checkRun(t, a[:n], b[:m], want, steps)
			check(t, a[n:], b[m:])
			check(t, a[n:], a[:n])
			l, _ := halve.Run(a[:n], b[:m])
			fill(l, api.Pair{I: -7, J: -7})
			if !slices.Equal(a, keptA) || !slices.Equal(b, keptB) {
				t.Fatalf("R4: a list was modified: %d, %d", a, b)
			}
		}
	}
}

// R4 and R5: results are new memory each time: whoever changes one, or an
// argument, changes no other result.
func TestResultsAreNew(t *testing.T) {
	for _, c := range [][2][]int{{{1}, {1}}, {{1, 2}, {2, 1}}, {{1, 2, 3, 2}, {1, 2, 4, 3, 2}}, {{5, 5, 5, 5, 5}, {5, 5, 5}}, {{6, 1, 2, 3}, {7, 1, 2, 3}}, {nil, {1}}, {nil, nil}} {
		for _, spare := range []int{0, 1, 20} {
			a, b := append(make([]int, 0, len(c[0])+spare), c[0]...), append(make([]int, 0, len(c[1])+spare), c[1]...)
			want, _ := words(c[0], c[1], api.Pair{})
			first, _ := halve.Run(a, b)
			second, _ := halve.Run(a, b)
			fill(first, api.Pair{I: -7, J: -7})
			fill(append(first, api.Pair{I: -8, J: -8}), api.Pair{I: -8, J: -8})
			third, _ := halve.Run(a, b)
			fill(a, -9)
			fill(b, -10)
			if !slices.Equal(second, want) || !slices.Equal(third, want) {
				t.Errorf("R4: Run(%d, %d): %v, %v, not %v", c[0], c[1], second, third, want)
			}
			if l, _ := halve.Run(a, b); len(l) != 0 {
				t.Errorf("R5: Run(%d, %d): %v", a, b, l)
			}
			check(t, c[0], c[1])
		}
	}
}

// R5: answers hang on the arguments alone: the lists may be one piece of
// memory or several, and what was asked before does not matter.
func TestAnswersStay(t *testing.T) {
	whole := []int{1, 1, 2, 1, 1, 2, 3}
	for range 4 {
		check(t, whole, whole)
		check(t, whole[:3], whole[3:])
		check(t, whole[3:], whole[:3])
		check(t, whole[1:5], whole[2:])
		check(t, nil, whole)
		check(t, whole, nil)
		check(t, slices.Clone(whole), whole[2:])
		if got := halve.Most(5, 7); got != 91 {
			t.Errorf("R5: Most(5, 7): %d", got)
		}
	}
}
