package onp_test

import (
	"fmt"
	"math"
	"math/rand"
	"slices"
	"sync"
	"testing"

	"tatting/api"
	"tatting/grid"
	"tatting/onp"
	"tatting/pairs"
)

const (
	lowest  = math.MinInt
	highest = math.MaxInt
	limit   = api.MaxTokens
)

// wide has numbers at the ends of the range of an int, about 0 and where fewer
// bits end.
var wide = []int{lowest, lowest + 1, -1 << 32, -1<<31 - 1, -7, -1, 0, 1, 1 << 31, 1<<32 + 1, highest - 1, highest}

// common has number j of list i: L(x[:i], y[:j]), by the textbook.
func common(x, y []int) [][]int {
	t := [][]int{make([]int, len(y)+1)}
	for i, v := range x {
		row := make([]int, len(y)+1)
		for j, w := range y {
			if row[j+1] = max(row[j], t[i][j+1]); v == w {
				row[j+1] = t[i][j] + 1
			}
		}
		t = append(t, row)
	}
	return t
}

// defined follows the definition of L in chapter 8.
func defined(a, b []int) int {
	if len(a) == 0 || len(b) == 0 {
		return 0
	}
	if a[0] == b[0] {
		return 1 + defined(a[1:], b[1:])
	}
	return max(defined(a[1:], b), defined(a, b[1:]))
}

// byDefinition has the same as common, by the definition.
func byDefinition(x, y []int) [][]int {
	t := make([][]int, len(x)+1)
	for i := range t {
		for j := range len(y) + 1 {
			t[i] = append(t[i], defined(x[:i], y[:j]))
		}
	}
	return t
}

// ordered returns x and y of chapter 18.
func ordered(a, b []int) (x, y []int) {
	if len(a) <= len(b) {
		return a, b
	}
	return b, a
}

// far follows the words of P18.1 over all points: t has L of the beginnings of
// x and y, which have n and m numbers.
func far(t [][]int, n, m, p int) []int {
	w := m - n
	l := slices.Repeat([]int{-1}, w+2*p+1)
	for i := range n + 1 {
		for j := range m + 1 {
			k := j - i
			cost := i - t[i][j]
			if k > w {
				cost += k - w
			}
			if cost <= p && k >= -p && k <= w+p {
				l[k+p] = max(l[k+p], j)
			}
		}
	}
	return l
}

// answer is what P18.1 asks for two lists: number p of far is Far at p.
type answer struct {
	far   [][]int
	d     int
	steps int64
}

// worked returns the answer for a and b. Beginnings tells L of the beginnings
// of two lists.
func worked(beginnings func(x, y []int) [][]int, a, b []int) answer {
	x, y := ordered(a, b)
	n, m := len(x), len(y)
	t := beginnings(x, y)
	w := answer{d: n + m - 2*t[n][m]}
	for p := range n + 1 {
		w.far = append(w.far, far(t, n, m, p))
	}
	for _, l := range w.far {
		w.steps += int64(len(l))
		// Diagonal W lies as far before the last one as 0 behind the first one.
		if p := (len(l) - (m - n) - 1) / 2; l[len(l)-1-p] == m {
			break
		}
	}
	return w
}

// countedSteps returns the steps of a and b by the lengths of onp's Far.
func countedSteps(a, b []int) int64 {
	x, y := ordered(a, b)
	w := len(y) - len(x)
	steps := int64(0)
	for p := range len(x) + 1 {
		l := onp.Far(a, b, p)
		steps += int64(len(l))
		if w+p < len(l) && l[w+p] == len(y) {
			break
		}
	}
	return steps
}

// fault tells what answers otherwise than it should, or nothing.
func (w answer) fault(a, b []int) string {
	for _, p := range []int{-1, len(w.far), len(w.far) + 1} {
		if l := onp.Far(a, b, p); len(l) != 0 {
			return fmt.Sprintf("Far at %d: %d, not empty", p, l)
		}
	}
	for p, want := range w.far {
		if l := onp.Far(a, b, p); !slices.Equal(l, want) {
			return fmt.Sprintf("Far at %d: %d, not %d", p, l, want)
		}
	}
	if n := countedSteps(a, b); n != w.steps {
		return fmt.Sprintf("the lengths of Far: %d, not %d", n, w.steps)
	}
	return w.short(a, b)
}

// short is fault without Far.
func (w answer) short(a, b []int) string {
	if d, steps := onp.Dist(a, b); d != w.d || steps != w.steps {
		return fmt.Sprintf("Dist: %d, %d, not %d, %d", d, steps, w.d, w.steps)
	}
	l, steps := onp.Run(a, b)
	switch n := onp.Most(len(a), len(b), w.d); {
	case !pairs.Good(a, b, l):
		return "Run's list, which is not valid"
	case 2*len(l) != len(a)+len(b)-w.d:
		return fmt.Sprintf("Run: %d pairs for a distance of %d", len(l), w.d)
	case steps != w.steps:
		return fmt.Sprintf("Run's steps: %d, not %d", steps, w.steps)
	case n != w.steps:
		return fmt.Sprintf("Most: %d, not %d", n, w.steps)
	}
	return ""
}

// told writes two lists, unless they are long.
func told(a, b []int) string {
	if len(a)+len(b) > 200 {
		return fmt.Sprintf("%d and %d numbers", len(a), len(b))
	}
	return fmt.Sprintf("%d and %d", a, b)
}

// check holds all four calls against w.
func (w answer) check(t *testing.T, a, b []int) {
	t.Helper()
	if f := w.fault(a, b); f != "" {
		t.Fatalf("P18.1: %s: %s", told(a, b), f)
	}
}

// checkShort holds all but Far against a distance and a number of steps.
func checkShort(t *testing.T, a, b []int, d int, steps int64) {
	t.Helper()
	if f := (answer{d: d, steps: steps}).short(a, b); f != "" {
		t.Fatalf("P18.1: %s: %s", told(a, b), f)
	}
}

// check holds all four calls against an answer that is worked out here.
func check(t *testing.T, a, b []int) {
	t.Helper()
	worked(common, a, b).check(t, a, b)
}

// checkFar holds Far at p against a list that is told.
func checkFar(t *testing.T, a, b []int, p int, want []int) {
	t.Helper()
	if l := onp.Far(a, b, p); !slices.Equal(l, want) {
		t.Fatalf("P18.1: Far of %s at %d: %d, not %d", told(a, b), p, l, want)
	}
}

// lists calls use with every list of up to length of the given elements.
func lists(elements []int, length int, use func([]int)) {
	last := [][]int{nil}
	use(nil)
	for range length {
		var next [][]int
		for _, l := range last {
			for _, e := range elements {
				next = append(next, append(slices.Clone(l), e))
			}
		}
		for _, l := range next {
			use(l)
		}
		last = next
	}
}

// two calls use with every two lists of up to length of the given elements.
func two(elements []int, length int, use func(a, b []int)) {
	lists(elements, length, func(a []int) {
		lists(elements, length, func(b []int) {
			use(a, b)
		})
	})
}

// some returns up to length numbers out of few, about 0.
func some(r *rand.Rand, length, kinds int) []int {
	l := make([]int, r.Intn(length+1))
	for i := range l {
		l[i] = r.Intn(kinds) - kinds/2
	}
	return l
}

// changed returns a copy of l with so many numbers put in, left out or
// replaced.
func changed(r *rand.Rand, l []int, times, kinds int) []int {
	l = slices.Clone(l)
	for range times {
		at := r.Intn(len(l) + 1)
		switch r.Intn(3) {
		case 0:
			l = slices.Insert(l, at, r.Intn(kinds)-kinds/2)
		case 1:
			l = slices.Delete(l, at, min(at+1, len(l)))
		default:
			if at < len(l) {
				l[at] = r.Intn(kinds) - kinds/2
			}
		}
	}
	return l
}

// counted returns n numbers from first on.
func counted(n, first int) []int {
	l := make([]int, n)
	for i := range l {
		l[i] = first + i
	}
	return l
}

// reversed returns a copy from its end to its beginning.
func reversed(l []int) []int {
	l = slices.Clone(l)
	slices.Reverse(l)
	return l
}

// fill overwrites a list and its spare capacity.
func fill[E any](l []E, with E) {
	l = l[:cap(l)]
	for i := range l {
		l[i] = with
	}
}

// roomy returns a copy of l with spare capacity, which holds a number of its
// own.
func roomy(l []int) []int {
	whole := slices.Repeat([]int{77}, len(l)+5)
	copy(whole, l)
	return whole[:len(l)]
}

// stayed reports whether a list that roomy made is as it was, with its spare
// capacity.
func stayed(l, was []int) bool {
	return slices.Equal(l[:cap(l)], roomy(was)[:len(was)+5])
}

// P18.1: the example of the chapter.
func TestExample(t *testing.T) {
	if d, steps := onp.Dist([]int{1, 2, 3}, []int{1, 9, 3}); d != 2 || steps != 4 {
		t.Errorf("P18.1: Dist(1 2 3, 1 9 3): %d, %d", d, steps)
	}
}

// P18.1: the edges, told.
func TestEdges(t *testing.T) {
	for _, c := range []struct {
		a, b []int
		answer
	}{
		// One or both lists empty.
		{nil, nil, answer{[][]int{{0}}, 0, 1}}, {nil, []int{}, answer{[][]int{{0}}, 0, 1}}, {[]int{}, nil, answer{[][]int{{0}}, 0, 1}}, {[]int{}, []int{}, answer{[][]int{{0}}, 0, 1}},
		{nil, []int{4}, answer{[][]int{{0, 1}}, 1, 2}}, {[]int{4}, nil, answer{[][]int{{0, 1}}, 1, 2}}, {[]int{}, []int{0}, answer{[][]int{{0, 1}}, 1, 2}},
		{nil, []int{1, 2, 3}, answer{[][]int{{0, 1, 2, 3}}, 3, 4}}, {[]int{0, 0, 0}, []int{}, answer{[][]int{{0, 1, 2, 3}}, 3, 4}},

		// One number in one list or in both.
		{[]int{4}, []int{4}, answer{[][]int{{1}, {0, 1, 1}}, 0, 1}}, {[]int{4}, []int{5}, answer{[][]int{{0}, {0, 1, 1}}, 2, 4}}, {[]int{0}, []int{0}, answer{[][]int{{1}, {0, 1, 1}}, 0, 1}}, {[]int{-4}, []int{4}, answer{[][]int{{0}, {0, 1, 1}}, 2, 4}},
		{[]int{4}, []int{4, 5}, answer{[][]int{{1, 2}, {0, 1, 2, 2}}, 1, 2}}, {[]int{4}, []int{5, 4}, answer{[][]int{{0, 2}, {0, 1, 2, 2}}, 1, 2}}, {[]int{6, 4}, []int{5}, answer{[][]int{{0, 1}, {0, 1, 2, 2}}, 3, 6}}, {[]int{5, 5, 4}, []int{4}, answer{[][]int{{0, 1, 3}, {0, 1, 2, 3, 3}}, 2, 3}},

		// The same list twice.
		{[]int{1, 2, 3}, []int{1, 2, 3}, answer{[][]int{{3}, {2, 3, 3}, {1, 2, 3, 3, 3}, {0, 1, 2, 3, 3, 3, 3}}, 0, 1}}, {[]int{5, 5}, []int{5, 5}, answer{[][]int{{2}, {1, 2, 2}, {0, 1, 2, 2, 2}}, 0, 1}},

		// Nothing alike, and the reverse.
		{[]int{1, 2}, []int{3, 4}, answer{[][]int{{0}, {0, 1, 1}, {0, 1, 2, 2, 2}}, 4, 9}}, {[]int{1, 2}, []int{3, 4, 5}, answer{[][]int{{0, 1}, {0, 1, 2, 2}, {0, 1, 2, 3, 3, 3}}, 5, 12}}, {[]int{3, 4, 5}, []int{-3, -4}, answer{[][]int{{0, 1}, {0, 1, 2, 2}, {0, 1, 2, 3, 3, 3}}, 5, 12}},
		{[]int{1, 2}, []int{2, 1}, answer{[][]int{{0}, {1, 2, 2}, {0, 1, 2, 2, 2}}, 2, 4}},

		// A short and b short, and lists of the same length, where x is a.
		{[]int{1, 3}, []int{1, 2, 3}, answer{[][]int{{1, 3}, {1, 2, 3, 3}, {0, 1, 2, 3, 3, 3}}, 1, 2}}, {[]int{1, 2, 3}, []int{1, 3}, answer{[][]int{{1, 3}, {1, 2, 3, 3}, {0, 1, 2, 3, 3, 3}}, 1, 2}},
		{[]int{1, 2, 3}, []int{3, 1, 4}, answer{[][]int{{0}, {0, 2, 2}, {1, 2, 3, 3, 3}, {0, 1, 2, 3, 3, 3, 3}}, 4, 9}}, {[]int{3, 1, 4}, []int{1, 2, 3}, answer{[][]int{{0}, {1, 2, 1}, {1, 2, 3, 3, 3}, {0, 1, 2, 3, 3, 3, 3}}, 4, 9}},

		// The ends of the range.
		{[]int{lowest, highest}, []int{lowest, highest}, answer{[][]int{{2}, {1, 2, 2}, {0, 1, 2, 2, 2}}, 0, 1}}, {[]int{lowest, highest}, []int{highest, lowest}, answer{[][]int{{0}, {1, 2, 2}, {0, 1, 2, 2, 2}}, 2, 4}},
	} {
		worked(byDefinition, c.a, c.b).check(t, c.a, c.b)
		c.answer.check(t, c.a, c.b)
	}
}

// P18.1: beyond diagonal W the cost counts k - W, and below it it does not.
func TestBeyondW(t *testing.T) {
	// Without k - W, diagonal 1 would be at 3 at cost 1, where L(1 2, 9 1 5)
	// is 1.
	a, b := []int{1, 2, 3}, []int{9, 1, 5}
	checkFar(t, a, b, 0, []int{0})
	checkFar(t, a, b, 1, []int{0, 2, 2})
	checkFar(t, a, b, 2, []int{0, 2, 3, 3, 3})
	// W is 2: diagonals 3 and 4 lie beyond it, 1 and 2 do not.
	x, y := []int{1, 2}, []int{7, 8, 9, 5}
	for _, c := range [][2][]int{{x, y}, {y, x}} {
		checkFar(t, c[0], c[1], 0, []int{0, 1, 2})
		checkFar(t, c[0], c[1], 1, []int{0, 1, 2, 3, 3})
		checkFar(t, c[0], c[1], 2, []int{0, 1, 2, 3, 4, 4, 4})
	}
	y = []int{7, 8, 9, 1}
	for _, c := range [][2][]int{{x, y}, {y, x}} {
		checkFar(t, c[0], c[1], 0, []int{0, 1, 2})
		checkFar(t, c[0], c[1], 1, []int{0, 1, 2, 4, 4})
		checkFar(t, c[0], c[1], 2, []int{0, 1, 2, 3, 4, 4, 4})
	}
	for n := range 20 {
		x, y := counted(n, 0), append(counted(2*n, 100), counted(n, 0)...)
		check(t, x, y)
		check(t, y, x)
		check(t, append(slices.Clone(x), counted(n, 50)...), y[n:])
	}
}

// P18.1: Far at every p that is none, also where p would wrap round.
func TestFarOutside(t *testing.T) {
	for _, c := range samples() {
		a, b := c[0], c[1]
		n := min(len(a), len(b))
		for _, p := range []int{-1, -2, -n, -n - 1, n + 1, n + 2, 2*n + 1, len(a) + len(b) + 1, lowest, lowest + 1, lowest + n, -1 << 32, -1 << 31, 1 << 31, 1 << 32, 1<<32 + n, 1 << 62, highest - n, highest - 1, highest} {
			if p < 0 || p > n {
				checkFar(t, a, b, p, nil)
			}
		}
		for p := range n + 1 {
			if l := onp.Far(a, b, p); len(l) != max(len(a), len(b))-n+2*p+1 {
				t.Errorf("P18.1: Far of %s at %d: %d", told(a, b), p, l)
			}
		}
	}
	if l := onp.Far(counted(limit, 0), counted(limit, 0), limit+1); len(l) != 0 {
		t.Errorf("P18.1: Far above the limit: %d numbers", len(l))
	}
}

// P18.1: Run's list where there is only one that it can be.
func TestOnlyList(t *testing.T) {
	for _, c := range []struct {
		a, b []int
		want []api.Pair
	}{
		{nil, nil, nil}, {nil, []int{1}, nil}, {[]int{1}, nil, nil}, {[]int{1, 2}, []int{3, 4}, nil}, {[]int{1, 2}, []int{3}, nil},
		{[]int{4}, []int{4}, []api.Pair{{I: 0, J: 0}}}, {[]int{1, 4}, []int{2, 3, 4}, []api.Pair{{I: 1, J: 2}}}, {[]int{2, 3, 4}, []int{1, 4}, []api.Pair{{I: 2, J: 1}}}, {[]int{4, 1}, []int{4, 2}, []api.Pair{{I: 0, J: 0}}},
		{[]int{1, 2, 3}, []int{1, 3}, []api.Pair{{I: 0, J: 0}, {I: 2, J: 1}}}, {[]int{1, 3}, []int{1, 2, 3}, []api.Pair{{I: 0, J: 0}, {I: 1, J: 2}}}, {[]int{3, 1, 2}, []int{1, 2, 3}, []api.Pair{{I: 1, J: 0}, {I: 2, J: 1}}}, {[]int{1, 2, 3}, []int{3, 1, 2}, []api.Pair{{I: 0, J: 1}, {I: 1, J: 2}}},

		// A long run at first that leads nowhere.
		{[]int{3, 4, 1, 2, 9}, []int{1, 3, 4, 9}, []api.Pair{{I: 0, J: 1}, {I: 1, J: 2}, {I: 4, J: 3}}},
		{[]int{1, 2, 3, 4, 5, 6}, []int{1, 4, 5, 6, 2, 3}, []api.Pair{{I: 0, J: 0}, {I: 3, J: 1}, {I: 4, J: 2}, {I: 5, J: 3}}},
	} {
		if l, _ := onp.Run(c.a, c.b); !slices.Equal(l, c.want) {
			t.Errorf("P18.1: Run(%d, %d): %v, not %v", c.a, c.b, l, c.want)
		}
	}
	for n := range 20 {
		for _, a := range [][]int{counted(n, -5), make([]int, n)} {
			l, _ := onp.Run(a, slices.Clone(a))
			if len(l) != n {
				t.Fatalf("P18.1: Run(%d, the same): %v", a, l)
			}
			for k, p := range l {
				if p != (api.Pair{I: k, J: k}) {
					t.Fatalf("P18.1: Run(%d, the same): %v", a, l)
				}
			}
		}
	}
}

// P18.1 and P18.2: every two lists of few numbers of few kinds.
func TestAllShortLists(t *testing.T) {
	use := func(a, b []int) {
		worked(byDefinition, a, b).check(t, a, b)
	}
	two([]int{1, 2}, 5, use)
	two([]int{-1, 0, 3}, 3, use)
	two([]int{lowest, -1, 0, highest}, 2, use)
	use = func(a, b []int) { check(t, a, b) }
	two([]int{1, 2}, 7, use)
	two([]int{-1, 0, 3}, 5, use)
	two([]int{lowest, -1, 0, highest}, 4, use)
}

// P18.1 and P18.2: longer lists, of few kinds and of many.
func TestManyLists(t *testing.T) {
	r := rand.New(rand.NewSource(181))
	for round := range 300 {
		kinds := 1 + r.Intn(1+round%40)
		a, b := some(r, 30, kinds), some(r, 30, kinds)
		check(t, a, b)
		check(t, b, a)
		check(t, a, a)
		check(t, a, changed(r, a, r.Intn(10), kinds))
		check(t, a, b[:len(b)/5])
		check(t, b[:len(b)/5], a)
	}
}

// P18.1: costs by package grid's table, at a few p of lists that are longer
// still, with diagonals far apart.
func TestFarAsGrid(t *testing.T) {
	r := rand.New(rand.NewSource(182))
	for round := range 60 {
		kinds := 1 + r.Intn(1+2*round)
		a := some(r, 150, kinds)
		for _, b := range [][]int{some(r, 150, kinds), changed(r, a, r.Intn(40), kinds), some(r, 9, kinds)} {
			x, y := ordered(a, b)
			ahead := grid.Ahead(x, y)
			for _, p := range []int{0, 1, r.Intn(len(x) + 1), len(x)} {
				if p <= len(x) {
					want := far(ahead, len(x), len(y), p)
					checkFar(t, a, b, p, want)
					if len(a) != len(b) {
						checkFar(t, b, a, p, want)
					}
				}
			}
		}
	}
}

// P18.1: Dist as grid's, Run's list as long as grid's Len and valid, and
// P18.2: both with as many steps as Most tells.
func TestAsGrid(t *testing.T) {
	r := rand.New(rand.NewSource(183))
	for round := range 150 {
		kinds := 1 + r.Intn(1+3*round)
		a := some(r, 400, kinds)
		for _, b := range [][]int{some(r, 400, kinds), changed(r, a, r.Intn(60), kinds), some(r, 9, kinds), nil, a} {
			for _, c := range [][2][]int{{a, b}, {b, a}} {
				d, steps := onp.Dist(c[0], c[1])
				l, ran := onp.Run(c[0], c[1])
				if d != grid.Dist(c[0], c[1]) {
					t.Fatalf("P18.1: Dist of %s: %d", told(c[0], c[1]), d)
				}
				if len(l) != grid.Len(c[0], c[1]) || !pairs.Good(c[0], c[1], l) {
					t.Fatalf("P18.1: Run of %s: %v", told(c[0], c[1]), l)
				}
				if n := onp.Most(len(c[0]), len(c[1]), d); steps != n || ran != n {
					t.Fatalf("P18.2: %s: Dist has %d steps, Run %d, Most %d", told(c[0], c[1]), steps, ran, n)
				}
			}
		}
	}
}

// P18.1: the lengths of Far, of longer lists.
func TestStepsByFar(t *testing.T) {
	r := rand.New(rand.NewSource(184))
	for round := range 60 {
		a := some(r, 120, 1+round)
		b := changed(r, a, r.Intn(40), 1+round)
		_, steps := onp.Dist(a, b)
		_, ran := onp.Run(a, b)
		if n := countedSteps(a, b); steps != n || ran != n {
			t.Fatalf("P18.1: %s: Dist has %d steps, Run %d, Far %d numbers", told(a, b), steps, ran, n)
		}
	}
}

// most follows the words of the steps in P18.1: the lengths of Far for every p
// up to the one that the distance asks for.
func most(n, m, d int) int64 {
	w := max(n-m, m-n)
	if n < 0 || m < 0 || d < w || d > n+m || (d-w)%2 != 0 {
		return 0
	}
	steps := int64(0)
	for p := range (d-w)/2 + 1 {
		steps += int64(w + 2*p + 1)
	}
	return steps
}

// checkMost holds Most against a number that is told.
func checkMost(t *testing.T, n, m, d int, want int64) {
	t.Helper()
	if got := onp.Most(n, m, d); got != want {
		t.Errorf("P18.1: Most(%d, %d, %d): %d, not %d", n, m, d, got, want)
	}
}

// P18.1: Most of few numbers, and beside its ranges.
func TestMost(t *testing.T) {
	for n := -3; n <= 20; n++ {
		for m := -3; m <= 20; m++ {
			for d := -6; d <= 46; d++ {
				checkMost(t, n, m, d, most(n, m, d))
			}
		}
	}
	for _, c := range [][3]int{{1000, 1000, 0}, {1000, 1000, 2000}, {1000, 1001, 7}, {0, limit, limit}, {limit, 0, limit}, {limit, 5, limit + 1}, {3, limit - 1, limit + 2}, {70000, 90000, 155000}} {
		checkMost(t, c[0], c[1], c[2], most(c[0], c[1], c[2]))
	}
}

// P18.1: Most at the limit and just above it. More than 32 bits can count, and
// more than the bits of a float.
func TestMostAtTheLimit(t *testing.T) {
	const all = limit + 1
	for _, c := range []struct {
		n, m, d int
		want    int64
	}{
		{limit, limit, 0, 1}, {limit, limit, 2, 4}, {limit, limit, 2 * limit, all * all}, {limit, limit, 2*limit - 2, limit * limit}, {limit, limit, 2*limit - 1, 0}, {limit, limit, 2*limit + 1, 0}, {limit, limit, 2*limit + 2, 0},
		{limit, limit - 1, 1, 2}, {limit - 1, limit, 2*limit - 1, limit * all}, {limit, 0, limit, all}, {0, limit, limit, all}, {limit, 0, limit - 2, 0}, {0, limit, limit + 2, 0},

		{limit + 1, 0, limit + 1, 0}, {0, limit + 1, limit + 1, 0}, {limit + 1, limit + 1, 0, 0}, {limit + 1, limit, 1, 0}, {limit, limit + 1, 1, 0}, {limit, limit + 1, 2*limit + 1, 0}, {limit + 1, 1, limit, 0},
		{-1, -1, 0, 0}, {-1, 0, 1, 0}, {0, -1, 1, 0}, {-1, 1, 2, 0}, {-1, 1, 0, 0}, {-1, 3, 2, 0}, {3, -1, 4, 0}, {-1, limit, limit + 1, 0}, {-2, -2, -4, 0},
	} {
		checkMost(t, c.n, c.m, c.d, c.want)
	}
}

// P18.1: Most at the ends of the range of an int, where the difference or the
// sum of n and m, or that of d and w, does not fit.
func TestMostWide(t *testing.T) {
	in := []int{0, 1, 2, 5, 6, limit - 1, limit}
	out := []int{lowest, lowest + 1, lowest + 2, lowest + limit, -1 << 62, -1 << 32, -limit, -2, -1, limit + 1, 1 << 32, 1 << 62, highest - limit, highest - 2, highest - 1, highest}
	distances := slices.Concat(in, out, []int{2 * limit, 2*limit + 1, 2*limit + 2, lowest + 5, lowest + 6})
	for _, x := range out {
		for _, y := range slices.Concat(in, out) {
			for _, d := range append(distances, x, y, x-y, y-x, x+y) {
				checkMost(t, x, y, d, 0)
				checkMost(t, y, x, d, 0)
			}
		}
	}
	for _, n := range in {
		for _, m := range in {
			for _, d := range distances {
				if d < 0 || d > n+m {
					checkMost(t, n, m, d, 0)
				}
			}
			w := max(n-m, m-n)
			checkMost(t, n, m, w, int64(w)+1)
			for _, d := range []int{w - 1, w - 2, w + 1, -w, -w - 2, lowest + w, lowest + w + 1} {
				if d != w {
					checkMost(t, n, m, d, 0)
				}
			}
		}
	}
}

// P18.1: numbers that fewer bits would not tell from each other.
func TestWideNumbers(t *testing.T) {
	for _, x := range wide {
		for n := range 5 {
			for m := range 5 {
				a, b := slices.Repeat([]int{x}, n), slices.Repeat([]int{x}, m)
				check(t, a, b)
				w := max(n-m, m-n)
				checkShort(t, a, b, w, int64(w)+1)
				for _, y := range []int{x + 1, ^x} {
					c := slices.Repeat([]int{y}, m)
					check(t, a, c)
					checkShort(t, a, c, n+m, most(n, m, n+m))
				}
			}
		}
	}
	for _, c := range [][2]int{{0, 1 << 32}, {0, 256}, {0, 1 << 16}, {lowest, 0}, {lowest, highest}, {1, 1 + 1<<32}, {-1, 1<<32 - 1}, {-1, 1}, {1 << 31, -1 << 31}, {1 << 52, 1<<52 + 1}, {1 << 53, 1<<53 + 1}, {1 << 62, 1<<62 + 1}} {
		checkShort(t, c[:1], c[1:], 2, 4)
		checkShort(t, []int{c[0], c[1]}, []int{c[1], c[0]}, 2, 4)
		checkShort(t, c[:], slices.Clone(c[:]), 0, 1)
	}
	r := rand.New(rand.NewSource(185))
	for range 300 {
		a, b := make([]int, r.Intn(25)), make([]int, r.Intn(25))
		for _, l := range [][]int{a, b} {
			for i := range l {
				l[i] = wide[r.Intn(len(wide))]
			}
		}
		check(t, a, b)
	}
}

// P18.1: what lies in the memory before and behind a list is no part of it.
func TestMemoryAroundIsNoPart(t *testing.T) {
	whole := []int{1, 2, 3, 1, 2, 3, 1, 2, 3}
	for n := range whole {
		for m := range whole {
			check(t, whole[:n], whole[:m])
			check(t, whole[n:], whole[:m])
			check(t, whole[n:], whole[m:])
			check(t, whole[n:min(n+3, len(whole))], whole[m:])
		}
	}
}

// P18.1: long lists whose answer is known.
func TestLongLists(t *testing.T) {
	const n = 2000
	rising, equal := counted(n, 0), make([]int, n)
	for _, c := range []struct {
		a, b  []int
		d     int
		steps int64
	}{
		{equal, equal, 0, 1}, {equal[n/4:], equal, n / 4, n/4 + 1}, {equal, equal[n/4:], n / 4, n/4 + 1}, {rising, equal, 2*n - 2, n * n}, {equal, rising, 2*n - 2, n * n}, {rising, counted(n, n), 2 * n, (n + 1) * (n + 1)}, {rising, reversed(rising), 2*n - 2, n * n},
		{slices.Repeat([]int{1, 2}, n/2), slices.Repeat([]int{2, 1}, n/2), 2, 4}, {slices.Concat(rising[n/2:], rising[:n/2]), rising, n, (n/2 + 1) * (n/2 + 1)},
		{rising, counted(n/2, n), n + n/2, (n/2 + 1) * (n + 1)}, {counted(n/2, n), rising, n + n/2, (n/2 + 1) * (n + 1)},
	} {
		checkShort(t, c.a, c.b, c.d, c.steps)
	}
}

// P18.1 and P18.2 at the limit: lists of a small distance, and a short list
// beside a long one.
func TestAtTheLimit(t *testing.T) {
	long, equal := counted(limit, 0), make([]int, limit)
	even := make([]int, limit/2)
	for i := range even {
		even[i] = 2 * i
	}
	for _, c := range []struct {
		a, b  []int
		d     int
		steps int64
	}{
		{long, nil, limit, limit + 1}, {nil, equal, limit, limit + 1}, {long, []int{-1, limit}, limit + 2, 3 * (limit + 1)}, {[]int{1, 2}, equal, limit + 2, 3 * (limit + 1)},
		{long, slices.Clone(long), 0, 1}, {equal, equal, 0, 1}, {slices.Concat(long[3:], long[:3]), long, 6, 16}, {long, slices.Concat(long[limit-3:], long[:limit-3]), 6, 16}, {long, long[9:], 9, 10}, {long[:limit-9], long, 9, 10},
		{even, long, limit / 2, limit/2 + 1}, {long, even, limit / 2, limit/2 + 1},
		{equal, equal[:3], limit - 3, limit - 2}, {long, []int{limit - 1, 6, 8, 7}, limit, 3 * (limit - 1)}, {[]int{limit - 1, 6, 8, 7}, long, limit, 3 * (limit - 1)},
	} {
		checkShort(t, c.a, c.b, c.d, c.steps)
	}
	checkFar(t, long, long, 0, []int{limit})
	checkFar(t, long, slices.Clone(long), 1, []int{limit - 1, limit, limit})
	checkFar(t, equal, long, 0, []int{1})
	checkFar(t, long, equal, 2, []int{1, 2, 3, 3, 3})
	checkFar(t, nil, long, 0, counted(limit+1, 0))
	checkFar(t, long, []int{-1}, 1, append(counted(limit+1, 0), limit))
}

// R1: no arguments make a call panic, also above the limit.
func TestNoPanic(t *testing.T) {
	at := append([]int{2, 3, 4, 5, limit, limit + 1, limit + 2, limit + 3, -limit, lowest + limit, highest - limit}, wide...)
	two([]int{lowest, 0, highest}, 3, func(a, b []int) {
		for _, p := range at {
			onp.Far(a, b, p)
		}
		onp.Dist(a, b)
		onp.Run(a, b)
	})
	for _, n := range at {
		for _, m := range at {
			for _, d := range at {
				onp.Most(n, m, d)
			}
		}
	}
	equal, rising := make([]int, limit+2), counted(limit+2, 0)
	for _, c := range [][2][]int{{rising, rising}, {equal, equal[1:]}, {rising[2:], rising}, {equal, nil}, {nil, equal}, {rising, {0, 1, 0}}, {{5, 1, 0}, rising}, {equal, {7, 7, 7}}} {
		for _, p := range []int{-1, 0, 1, 2, 3, limit + 3, lowest, highest} {
			onp.Far(c[0], c[1], p)
		}
		onp.Dist(c[0], c[1])
		onp.Run(c[0], c[1])
	}
}

// samples are lists that have something in common, and such that have not.
func samples() [][2][]int {
	return [][2][]int{
		{{1}, {1}}, {{1, 2}, {2, 1}}, {{1, 2, 3, 2}, {1, 2, 4, 3, 2}}, {{5, 5, 5, 5, 5}, {5, 5, 5}}, {{6, 1, 2, 3}, {7, 1, 2, 3}}, {{1, 2, 1, 3, 1, 2, 2, 1}, {2, 1, 1, 3, 1, 2, 3}}, {{2, 1, 1, 3}, {1, 2, 1, 3, 1, 2, 2, 1, 9, 9}}, {{77, 1}, {1, 77}}, {{77}, {77, 77, 77}},
		{{1, 2}, {3}}, {{1, 2}, {3, 4}}, {nil, {1}}, {{1}, nil}, {nil, nil},
	}
}

// R4: no call modifies an argument or its spare capacity, and no change of a
// result changes one.
func TestArgumentsStay(t *testing.T) {
	for _, c := range samples() {
		a, b := roomy(c[0]), roomy(c[1])
		onp.Dist(a, b)
		l, _ := onp.Run(a, b)
		far := [][]int{onp.Far(a, b, -1), onp.Far(a, b, len(a)+len(b)+1)}
		for p := range min(len(a), len(b)) + 1 {
			far = append(far, onp.Far(a, b, p))
		}
		if !stayed(a, c[0]) || !stayed(b, c[1]) {
			t.Fatalf("R4: %d or %d was modified: %d, %d", c[0], c[1], a[:cap(a)], b[:cap(b)])
		}
		for _, f := range far {
			fill(f, -7)
			fill(append(f, -8), -8)
		}
		fill(l, api.Pair{I: -7, J: -7})
		fill(append(l, api.Pair{I: -8, J: -8}), api.Pair{I: -8, J: -8})
		if !stayed(a, c[0]) || !stayed(b, c[1]) {
			t.Fatalf("R4: a result shares memory with %d or %d: %d, %d", c[0], c[1], a[:cap(a)], b[:cap(b)])
		}
		worked(common, c[0], c[1]).check(t, a, b)
	}
}

// R4 and R5: results, with their spare capacity, are new memory each time:
// whoever changes one, or an argument, changes no other result.
func TestResultsAreNew(t *testing.T) {
	for _, c := range samples() {
		a, b := slices.Clone(c[0]), slices.Clone(c[1])
		w := worked(common, a, b)
		firstL, _ := onp.Run(a, b)
		secondL, _ := onp.Run(a, b)
		kept := slices.Clone(secondL)
		var second [][]int
		for p := range w.far {
			first := onp.Far(a, b, p)
			second = append(second, onp.Far(a, b, p))
			for _, with := range []int{-7, -8} {
				fill(first, with)
				first = append(first, with)
			}
		}
		for _, with := range []int{-7, -8} {
			fill(firstL, api.Pair{I: with, J: with})
			firstL = append(firstL, api.Pair{I: with, J: with})
		}
		thirdL, _ := onp.Run(a, b)
		fill(a, -9)
		fill(b, -10)
		for p, want := range w.far {
			if !slices.Equal(second[p], want) {
				t.Errorf("R4: Far(%d, %d, %d): %d, then %d", c[0], c[1], p, want, second[p])
			}
		}
		for _, l := range [][]api.Pair{secondL, thirdL} {
			if !slices.Equal(l, kept) || !pairs.Good(c[0], c[1], l) {
				t.Errorf("R4: Run(%d, %d): %v, then %v", c[0], c[1], kept, l)
			}
		}
		check(t, a, b)
		w.check(t, c[0], c[1])
	}
}

// R5: answers hang on the arguments alone: the lists may be one piece of
// memory or several, and what was asked before does not matter.
func TestAnswersStay(t *testing.T) {
	whole := []int{1, 1, 2, 1, 1, 2, 3}
	first, _ := onp.Run(whole[1:], whole[:6])
	for range 4 {
		check(t, whole, whole)
		check(t, whole[:3], whole[3:])
		check(t, whole[3:], whole[:3])
		check(t, whole[1:5], whole[2:])
		check(t, nil, whole)
		check(t, whole, nil)
		check(t, slices.Clone(whole), whole[2:])
		for _, c := range [][2][]int{{whole[1:], whole[:6]}, {slices.Clone(whole[1:]), roomy(whole[:6])}} {
			if l, _ := onp.Run(c[0], c[1]); !slices.Equal(l, first) {
				t.Fatalf("R5: Run(%d, %d): %v, then %v", c[0], c[1], first, l)
			}
		}
	}
}

// R5: the same call has the same list each time.
func TestSameListEachTime(t *testing.T) {
	r := rand.New(rand.NewSource(186))
	for round := range 200 {
		kinds := 1 + r.Intn(1+round%30)
		a, b := some(r, 60, kinds), some(r, 60, kinds)
		first, _ := onp.Run(a, b)
		for range 3 {
			if l, _ := onp.Run(a, b); !slices.Equal(l, first) {
				t.Fatalf("R5: Run(%d, %d): %v, then %v", a, b, first, l)
			}
		}
	}
}

// R5: many goroutines at once, with the same lists and with lists of their
// own.
func TestManyAtOnce(t *testing.T) {
	shared := rand.New(rand.NewSource(187))
	for round := range 30 {
		a, b := some(shared, 40, 5), some(shared, 40, 5)
		w := worked(common, a, b)
		var group sync.WaitGroup
		start := make(chan bool)
		faults := make([]string, 8)
		for g := range faults {
			group.Go(func() {
				r := rand.New(rand.NewSource(int64(100*round + g)))
				<-start
				for range 6 {
					c, d := some(r, 20, 3), some(r, 20, 3)
					if f := worked(common, c, d).fault(c, d); f != "" {
						faults[g] = f
					}
					if f := w.fault(a, b); f != "" {
						faults[g] = f
					}
				}
			})
		}
		close(start)
		group.Wait()
		for g, f := range faults {
			if f != "" {
				t.Fatalf("R5: goroutine %d: %s", g, f)
			}
		}
	}
}
