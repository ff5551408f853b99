package snake_test

import (
	"fmt"
	"math"
	"math/rand"
	"slices"
	"sync"
	"testing"

	"tatting/api"
	"tatting/snake"
)

const (
	lowest  = math.MinInt
	highest = math.MaxInt
	limit   = api.MaxTokens
)

// wide has numbers at the ends of the range of an int, about 0 and where fewer
// bits end.
var wide = []int{lowest, lowest + 1, lowest + 2, -1 << 62, -1 << 32, -1<<31 - 1, -7, -1, 0, 1, 1 << 31, 1<<32 + 1, 1 << 62, highest - 2, highest - 1, highest}

// inside reports whether a[:i] and b[:j] exist.
func inside(a, b []int, i, j int) bool {
	return 0 <= i && i <= len(a) && 0 <= j && j <= len(b)
}

// down follows the words of P17.1: the greatest n for which n numbers from i
// and from j on are the same.
func down(a, b []int, i, j int) int {
	if !inside(a, b, i, j) {
		return 0
	}
	x, y := a[i:], b[j:]
	n := min(len(x), len(y))
	for !slices.Equal(x[:n], y[:n]) {
		n--
	}
	return n
}

// up follows the words of P17.1: the greatest n for which n numbers up to i
// and up to j are the same.
func up(a, b []int, i, j int) int {
	if !inside(a, b, i, j) {
		return 0
	}
	x, y := a[:i], b[:j]
	n := min(len(x), len(y))
	for !slices.Equal(x[len(x)-n:], y[len(y)-n:]) {
		n--
	}
	return n
}

// slide looks for the point of diagonal k at j among all points, so that j - k
// is never worked out.
func slide(a, b []int, k, j int) int {
	for i := range len(a) + 1 {
		if inside(a, b, i, j) && j-i == k {
			return j + down(a, b, i, j)
		}
	}
	return -1
}

// lists calls use with every list of up to length of the given elements.
func lists(elements []int, length int, use func([]int)) {
	last := [][]int{nil}
	use(nil)
	for range length {
		var next [][]int
		for _, l := range last {
			for _, e := range elements {
				next = append(next, append(slices.Clone(l), e))
			}
		}
		for _, l := range next {
			use(l)
		}
		last = next
	}
}

// two calls use with every two lists of up to length of the given elements.
func two(elements []int, length int, use func(a, b []int)) {
	lists(elements, length, func(a []int) {
		lists(elements, length, func(b []int) {
			use(a, b)
		})
	})
}

// some returns up to length numbers out of few, about 0.
func some(r *rand.Rand, length, kinds int) []int {
	l := make([]int, r.Intn(length+1))
	for i := range l {
		l[i] = r.Intn(kinds) - kinds/2
	}
	return l
}

// changed returns a copy of l with so many numbers put in, left out or
// replaced.
func changed(r *rand.Rand, l []int, times, kinds int) []int {
	l = slices.Clone(l)
	for range times {
		at := r.Intn(len(l) + 1)
		switch r.Intn(3) {
		case 0:
			l = slices.Insert(l, at, r.Intn(kinds)-kinds/2)
		case 1:
			l = slices.Delete(l, at, min(at+1, len(l)))
		default:
			if at < len(l) {
				l[at] = r.Intn(kinds) - kinds/2
			}
		}
	}
	return l
}

// reversed returns a copy from its end to its beginning.
func reversed(l []int) []int {
	l = slices.Clone(l)
	slices.Reverse(l)
	return l
}

// counted returns n numbers from 0 on.
func counted(n int) []int {
	l := make([]int, n)
	for i := range l {
		l[i] = i
	}
	return l
}

// replaced returns a copy of l with another number at i.
func replaced(l []int, i int) []int {
	l = slices.Clone(l)
	l[i] = -1
	return l
}

// roomy returns a copy of l with spare capacity, which holds a number of its
// own.
func roomy(l []int) []int {
	whole := slices.Repeat([]int{77}, len(l)+5)
	copy(whole, l)
	return whole[:len(l)]
}

// stayed reports whether a list that roomy made is as it was, with its spare
// capacity.
func stayed(l, was []int) bool {
	return slices.Equal(l[:cap(l)], roomy(was)[:len(was)+5])
}

// outside returns numbers that are no index at which a list of n numbers can be
// divided.
func outside(n int) []int {
	return []int{-1, -2, n + 1, n + 2, -n - 1, lowest, lowest + 1, lowest + n, -1 << 32, 1 << 32, highest - n - 1, highest - 1, highest}
}

// checkDown holds Down at i and j against n.
func checkDown(t *testing.T, a, b []int, i, j, n int) {
	t.Helper()
	if got := snake.Down(a, b, i, j); got != n {
		t.Fatalf("P17.1: Down of %s at %d, %d: %d, not %d", told(a, b), i, j, got, n)
	}
}

// checkUp holds Up at i and j against n.
func checkUp(t *testing.T, a, b []int, i, j, n int) {
	t.Helper()
	if got := snake.Up(a, b, i, j); got != n {
		t.Fatalf("P17.1: Up of %s at %d, %d: %d, not %d", told(a, b), i, j, got, n)
	}
}

// checkSlide holds Slide on diagonal k at j against n.
func checkSlide(t *testing.T, a, b []int, k, j, n int) {
	t.Helper()
	if got := snake.Slide(a, b, k, j); got != n {
		t.Fatalf("P17.1: Slide of %s on %d at %d: %d, not %d", told(a, b), k, j, got, n)
	}
}

// checkWords holds all three calls against the words of P17.1, at every i and
// j and one further on each side.
func checkWords(t *testing.T, a, b []int) {
	t.Helper()
	for i := -1; i <= len(a)+1; i++ {
		for j := -1; j <= len(b)+1; j++ {
			checkDown(t, a, b, i, j, down(a, b, i, j))
			checkUp(t, a, b, i, j, up(a, b, i, j))
		}
	}
	for j := -1; j <= len(b)+1; j++ {
		for k := j - len(a) - 1; k <= j+1; k++ {
			checkSlide(t, a, b, k, j, slide(a, b, k, j))
		}
	}
}

// checkTable holds Down and Up at every i and j against the same at the next
// point of the diagonal, counted from its end on, and Slide on every diagonal
// against Down.
func checkTable(t *testing.T, a, b []int) {
	t.Helper()
	n, m := len(a), len(b)
	ahead, behind := make([]int, m+2), make([]int, m+1)
	for i := range n + 1 {
		for j := m; j >= 0; j-- {
			if i > 0 && j > 0 && a[i-1] == b[j-1] {
				behind[j] = behind[j-1] + 1
			} else {
				behind[j] = 0
			}
			checkUp(t, a, b, i, j, behind[j])
		}
	}
	for i := n; i >= 0; i-- {
		for j := range m + 1 {
			if i < n && j < m && a[i] == b[j] {
				ahead[j] = ahead[j+1] + 1
			} else {
				ahead[j] = 0
			}
			checkDown(t, a, b, i, j, ahead[j])
			checkSlide(t, a, b, j-i, j, j+ahead[j])
		}
	}
}

// told writes two lists, unless they are long.
func told(a, b []int) string {
	if len(a)+len(b) > 200 {
		return "two long lists"
	}
	return fmt.Sprintf("%d and %d", a, b)
}

// P17.1: the examples of the chapter.
func TestExamples(t *testing.T) {
	a, b := []int{1, 2, 3}, []int{2, 3, 4}
	checkDown(t, a, b, 1, 0, 2)
	checkUp(t, a, b, 3, 2, 2)
	checkSlide(t, a, b, -1, 0, 2)
}

// edge has two lists and what Down, Up and Slide answer at i and j.
type edge struct {
	a, b           []int
	i, j           int
	down, up, slid int
}

// P17.1: the edges, told.
func TestEdges(t *testing.T) {
	abc, twice := []int{1, 2, 3}, []int{5, 5, 5, 5}
	for _, c := range []edge{
		// One or both lists empty.
		{nil, nil, 0, 0, 0, 0, 0}, {[]int{}, nil, 0, 0, 0, 0, 0}, {nil, []int{}, 0, 0, 0, 0, 0}, {[]int{}, []int{}, 0, 0, 0, 0, 0},
		{nil, []int{0}, 0, 0, 0, 0, 0}, {nil, []int{0}, 0, 1, 0, 0, 1}, {[]int{0}, nil, 0, 0, 0, 0, 0}, {[]int{0}, nil, 1, 0, 0, 0, 0}, {[]int{}, abc, 0, 3, 0, 0, 3}, {abc, []int{}, 3, 0, 0, 0, 0},

		// One number in each.
		{[]int{4}, []int{4}, 0, 0, 1, 0, 1}, {[]int{4}, []int{4}, 1, 1, 0, 1, 1}, {[]int{4}, []int{4}, 0, 1, 0, 0, 1}, {[]int{4}, []int{4}, 1, 0, 0, 0, 0},
		{[]int{4}, []int{5}, 0, 0, 0, 0, 0}, {[]int{4}, []int{5}, 1, 1, 0, 0, 1}, {[]int{0}, []int{0}, 0, 0, 1, 0, 1}, {[]int{-4}, []int{4}, 0, 0, 0, 0, 0},

		// One number in one of them.
		{[]int{3}, abc, 0, 2, 1, 0, 3}, {[]int{3}, abc, 1, 3, 0, 1, 3}, {[]int{1}, abc, 0, 0, 1, 0, 1}, {[]int{1}, abc, 1, 1, 0, 1, 1}, {abc, []int{3}, 2, 0, 1, 0, 1}, {abc, []int{3}, 3, 1, 0, 1, 1},

		// The same list twice, on its diagonal and beside it.
		{abc, abc, 0, 0, 3, 0, 3}, {abc, abc, 1, 1, 2, 1, 3}, {abc, abc, 2, 2, 1, 2, 3}, {abc, abc, 3, 3, 0, 3, 3}, {abc, abc, 0, 1, 0, 0, 1}, {abc, abc, 2, 1, 0, 0, 1},
		{twice, twice, 0, 0, 4, 0, 4}, {twice, twice, 1, 2, 2, 1, 4}, {twice, twice, 3, 2, 1, 2, 3}, {twice, twice, 0, 4, 0, 0, 4}, {twice, twice, 4, 0, 0, 0, 0}, {twice, twice, 4, 4, 0, 4, 4},

		// Nothing alike.
		{abc, []int{4, 5, 6}, 0, 0, 0, 0, 0}, {abc, []int{4, 5, 6}, 3, 3, 0, 0, 3}, {abc, []int{4, 5, 6}, 1, 2, 0, 0, 2}, {abc, []int{-1, -2, -3}, 0, 0, 0, 0, 0}, {abc, []int{-1, -2, -3}, 3, 3, 0, 0, 3},

		// A run that a difference ends, and what follows it does not count.
		{[]int{1, 2, 9, 3}, []int{1, 2, 8, 3}, 0, 0, 2, 0, 2}, {[]int{1, 2, 9, 3}, []int{1, 2, 8, 3}, 4, 4, 0, 1, 4}, {[]int{1, 2, 9, 3}, []int{1, 2, 8, 3}, 2, 2, 0, 2, 2}, {[]int{1, 2, 9, 3}, []int{1, 2, 8, 3}, 3, 3, 1, 0, 4},

		// A run that the end of the shorter list ends.
		{[]int{1, 2}, []int{1, 2, 3}, 0, 0, 2, 0, 2}, {abc, []int{1, 2}, 0, 0, 2, 0, 2}, {[]int{2, 3}, abc, 2, 3, 0, 2, 3}, {abc, []int{2, 3}, 3, 2, 0, 2, 2},

		// The ends of the range, and below 0.
		{[]int{lowest, highest}, []int{lowest, highest}, 0, 0, 2, 0, 2}, {[]int{lowest, highest}, []int{lowest, highest}, 2, 2, 0, 2, 2}, {[]int{lowest, highest}, []int{highest, lowest}, 0, 0, 0, 0, 0}, {[]int{lowest, highest}, []int{highest, lowest}, 1, 0, 1, 0, 1}, {[]int{lowest, highest}, []int{highest, lowest}, 1, 2, 0, 1, 2}, {[]int{-1, -2, -3}, []int{-2, -3, -1}, 1, 0, 2, 0, 2}, {[]int{-1, -2, -3}, []int{-2, -3, -1}, 3, 2, 0, 2, 2},
	} {
		checkDown(t, c.a, c.b, c.i, c.j, c.down)
		checkUp(t, c.a, c.b, c.i, c.j, c.up)
		checkSlide(t, c.a, c.b, c.j-c.i, c.j, c.slid)
	}
}

// P17.1: i or j, or both, outside.
func TestOutside(t *testing.T) {
	for _, c := range samples() {
		a, b := c[0], c[1]
		for _, i := range outside(len(a)) {
			for j := range len(b) + 1 {
				checkDown(t, a, b, i, j, 0)
				checkUp(t, a, b, i, j, 0)
			}
			for _, j := range outside(len(b)) {
				checkDown(t, a, b, i, j, 0)
				checkUp(t, a, b, i, j, 0)
			}
		}
		for _, j := range outside(len(b)) {
			for i := range len(a) + 1 {
				checkDown(t, a, b, i, j, 0)
				checkUp(t, a, b, i, j, 0)
			}
		}
	}
}

// P17.1: Slide where j or j - k is outside, and where j - k does not fit into
// an int: what it would wrap round to is an index of a, or none.
func TestSlideOutside(t *testing.T) {
	for _, c := range samples() {
		a, b := c[0], c[1]
		for j := range len(b) + 1 {
			for _, k := range wide {
				checkSlide(t, a, b, k, j, slide(a, b, k, j))
			}
			for _, i := range outside(len(a)) {
				checkSlide(t, a, b, j-i, j, -1)
			}
		}
		for _, j := range outside(len(b)) {
			for _, k := range wide {
				checkSlide(t, a, b, k, j, -1)
			}
			for i := range len(a) + 1 {
				checkSlide(t, a, b, j-i, j, -1)
			}
			for _, i := range outside(len(a)) {
				checkSlide(t, a, b, j-i, j, -1)
			}
		}
	}
}

// P17.1: every two lists of few numbers of few kinds.
func TestAllShortLists(t *testing.T) {
	use := func(a, b []int) {
		checkWords(t, a, b)
		checkTable(t, a, b)
	}
	two([]int{1, 2}, 6, use)
	two([]int{-1, 0, 3}, 4, use)
	two([]int{lowest, -1, 0, highest}, 3, use)
}

// P17.1: longer lists, of few kinds and of many, and such that have much in
// common.
func TestManyLists(t *testing.T) {
	r := rand.New(rand.NewSource(171))
	for round := range 60 {
		kinds := 1 + r.Intn(1+round%12)
		a := some(r, 40, kinds)
		for _, b := range [][]int{some(r, 40, kinds), a, changed(r, a, 1+r.Intn(4), kinds), some(r, 5, kinds)} {
			checkWords(t, a, b)
			checkWords(t, b, a)
		}
	}
	for round := range 60 {
		kinds := 1 + r.Intn(1+3*round)
		a := some(r, 200, kinds)
		for _, b := range [][]int{some(r, 200, kinds), a, changed(r, a, 1+r.Intn(9), kinds), some(r, 9, kinds)} {
			checkTable(t, a, b)
			checkTable(t, b, a)
		}
	}
}

// P17.1: Slide is j + Down(a, b, j - k, j) on every diagonal, and -1 on those
// that do not pass the table at j.
func TestSlideByDown(t *testing.T) {
	r := rand.New(rand.NewSource(172))
	for round := range 100 {
		kinds := 1 + r.Intn(1+round%10)
		a := some(r, 50, kinds)
		for _, b := range [][]int{some(r, 50, kinds), changed(r, a, r.Intn(5), kinds)} {
			for j := -2; j <= len(b)+2; j++ {
				for k := -len(a) - 3; k <= len(b)+3; k++ {
					want := -1
					if inside(a, b, j-k, j) {
						want = j + snake.Down(a, b, j-k, j)
					}
					checkSlide(t, a, b, k, j, want)
				}
			}
		}
	}
}

// P17.1: Up is Down of the lists from their ends on, and neither changes when
// the lists change places.
func TestMirror(t *testing.T) {
	r := rand.New(rand.NewSource(173))
	for round := range 100 {
		kinds := 1 + r.Intn(1+round%10)
		a := some(r, 50, kinds)
		b := changed(r, a, r.Intn(8), kinds)
		back, ward := reversed(a), reversed(b)
		for i := -1; i <= len(a)+1; i++ {
			for j := -1; j <= len(b)+1; j++ {
				checkUp(t, a, b, i, j, snake.Down(back, ward, len(a)-i, len(b)-j))
				checkUp(t, b, a, j, i, snake.Up(a, b, i, j))
				checkDown(t, b, a, j, i, snake.Down(a, b, i, j))
			}
		}
	}
}

// P17.1: numbers that fewer bits would not tell from each other.
func TestWideNumbers(t *testing.T) {
	for _, x := range wide {
		for _, y := range wide {
			same := 0
			if x == y {
				same = 1
			}
			a, b := []int{x}, []int{y}
			checkDown(t, a, b, 0, 0, same)
			checkUp(t, a, b, 1, 1, same)
			checkSlide(t, a, b, 0, 0, same)
			checkWords(t, []int{x, y, x}, []int{y, x, x})
		}
	}
	for _, c := range [][2]int{{0, 1 << 32}, {0, 256}, {0, 1 << 16}, {lowest, 0}, {1, 1 + 1<<32}, {-1, 1<<32 - 1}, {-1, 1}, {1 << 31, -1 << 31}, {1 << 52, 1<<52 + 1}, {1 << 53, 1<<53 + 1}, {1 << 62, 1<<62 + 1}} {
		checkDown(t, c[:1], c[1:], 0, 0, 0)
		checkUp(t, c[:1], c[1:], 1, 1, 0)
		checkSlide(t, c[:1], c[1:], 0, 0, 0)
	}
}

// P17.1: what lies in the memory before and behind a list is no part of it.
func TestMemoryAroundIsNoPart(t *testing.T) {
	whole := []int{4, 4, 4, 4, 4, 4, 4}
	for from := range whole {
		for to := from; to <= len(whole); to++ {
			part := whole[from:to]
			for i := range len(part) + 1 {
				for j := range len(whole) + 1 {
					checkDown(t, part, whole, i, j, min(len(part)-i, len(whole)-j))
					checkDown(t, whole, part, j, i, min(len(part)-i, len(whole)-j))
					checkUp(t, part, whole, i, j, min(i, j))
					checkUp(t, whole, part, j, i, min(i, j))
				}
				checkDown(t, part, part, i, i, len(part)-i)
			}
			for _, i := range []int{-1, len(part) + 1} {
				checkDown(t, part, whole, i, 0, 0)
				checkUp(t, part, whole, i, len(whole), 0)
				checkSlide(t, part, whole, -i, 0, -1)
			}
		}
	}
}

// P17.1: lists at the limit.
func TestAtTheLimit(t *testing.T) {
	long, equal := counted(limit), make([]int, limit)
	for _, a := range [][]int{long, equal} {
		for _, c := range []int{0, 1, limit / 2, limit - 1, limit} {
			checkDown(t, a, a, c, c, limit-c)
			checkUp(t, a, a, c, c, c)
			checkSlide(t, a, a, 0, c, limit)
			checkSlide(t, a, a, c-limit, c, c)
			checkSlide(t, a, a, c+1, c, -1)
			checkSlide(t, a, a, c-limit-1, c, -1)
		}
		for _, i := range []int{0, 1, limit / 2, limit - 2, limit - 1} {
			b := replaced(a, i)
			checkDown(t, a, b, 0, 0, i)
			checkUp(t, b, a, limit, limit, limit-1-i)
			checkSlide(t, a, b, 0, 0, i)
			checkSlide(t, b, a, 0, i+1, limit)
		}
	}
	checkDown(t, equal, equal, 0, limit-5, 5)
	checkUp(t, equal, equal, limit, 7, 7)
	checkSlide(t, equal, equal, limit-5, limit-5, limit)
	checkSlide(t, equal, equal, -limit, 0, 0)
	checkDown(t, long, long[9:], 9, 0, limit-9)
	checkUp(t, long, long[9:], limit, limit-9, limit-9)
	checkDown(t, long, reversed(long), 0, limit-1, 1)
	checkDown(t, equal, []int{0, 0, 0}, limit-2, 0, 2)
	checkUp(t, []int{0, 0, 0}, equal, 3, limit, 3)
}

// R1: no arguments make a call panic, also above the limit.
func TestNoPanic(t *testing.T) {
	long := make([]int, limit+2)
	all := append([]int{2, 3, 4, 5, limit, limit + 1, limit + 2, limit + 3, -limit, -limit - 2, lowest + limit, highest - limit}, wide...)
	for _, a := range [][]int{nil, {}, {0}, {0, 0, 1}, long} {
		for _, b := range [][]int{nil, {0}, {0, 0, 1, 0}, long} {
			for _, x := range all {
				for _, y := range all {
					snake.Down(a, b, x, y)
					snake.Up(a, b, x, y)
					snake.Slide(a, b, x, y)
				}
			}
		}
	}
}

// samples are lists that have something in common, and such that have not.
func samples() [][2][]int {
	return [][2][]int{
		{{1}, {1}}, {{1, 2}, {2, 1}}, {{1, 1}, {1, 1}}, {{1, 2, 3, 2}, {1, 2, 4, 3, 2}}, {{5, 5, 5, 5, 5}, {5, 5, 5}}, {{6, 1, 2, 3}, {7, 1, 2, 3}}, {{1, 2, 1, 3, 1, 2, 2, 1}, {2, 1, 1, 3, 1, 2, 3}}, {{77, 1}, {1, 77}}, {{77}, {77, 77, 77}},
		{{1, 2}, {3}}, {nil, {1}}, {{1}, nil}, {nil, nil},
	}
}

// R4: no call modifies an argument or its spare capacity, and the spare
// capacity, which is alike in both lists, is no part of a list.
func TestArgumentsStay(t *testing.T) {
	for _, c := range samples() {
		a, b := roomy(c[0]), roomy(c[1])
		checkWords(t, a, b)
		for _, i := range outside(len(a)) {
			for _, j := range outside(len(b)) {
				snake.Down(a, b, i, j)
				snake.Up(a, b, i, j)
				snake.Slide(a, b, i, j)
			}
		}
		if !stayed(a, c[0]) || !stayed(b, c[1]) {
			t.Fatalf("R4: %d or %d was modified: %d, %d", c[0], c[1], a[:cap(a)], b[:cap(b)])
		}
		checkWords(t, c[0], b)
		checkWords(t, a, c[1])
	}
}

// R4 and R5: no list is retained: once it changes, the answers change too.
func TestNotRetained(t *testing.T) {
	a, b := []int{1, 2, 3, 4, 5}, []int{1, 2, 3, 4, 5}
	for i := range a {
		checkWords(t, a, b)
		a[i] = -7
		checkDown(t, a, b, 0, 0, 0)
		checkDown(t, a, b, i+1, i+1, 4-i)
		checkUp(t, a, b, 5, 5, 4-i)
		checkSlide(t, a, b, 0, 0, 0)
		checkWords(t, a, b)
	}
	copy(b, a)
	checkDown(t, a, b, 0, 0, 5)
	checkUp(t, a, b, 5, 5, 5)
	checkSlide(t, a, b, 0, 0, 5)
}

// R5: answers hang on the arguments alone: the lists may be one piece of
// memory or several, and what was asked before does not matter.
func TestAnswersStay(t *testing.T) {
	whole := []int{1, 1, 2, 1, 1, 2, 3}
	for range 4 {
		checkWords(t, whole, whole)
		checkWords(t, whole[:3], whole[3:])
		checkWords(t, whole[3:], whole[:3])
		checkWords(t, whole[1:5], whole[2:])
		checkWords(t, nil, whole)
		checkWords(t, whole, nil)
		checkWords(t, slices.Clone(whole), whole[2:])
		checkSlide(t, whole, whole, lowest, 3, -1)
		checkSlide(t, whole, whole, highest, 3, -1)
	}
}

// fault tells which call answers otherwise than it should somewhere in the
// table of a and b, or nothing.
func fault(a, b []int) string {
	for i := -1; i <= len(a)+1; i++ {
		for j := -1; j <= len(b)+1; j++ {
			switch {
			case snake.Down(a, b, i, j) != down(a, b, i, j):
				return "Down"
			case snake.Up(a, b, i, j) != up(a, b, i, j):
				return "Up"
			case snake.Slide(a, b, j-i, j) != slide(a, b, j-i, j):
				return "Slide"
			}
		}
	}
	return ""
}

// R5: many goroutines at once, with the same lists and with lists of their
// own.
func TestManyAtOnce(t *testing.T) {
	shared := rand.New(rand.NewSource(174))
	for round := range 20 {
		a := some(shared, 25, 2)
		b := changed(shared, a, 3, 2)
		var group sync.WaitGroup
		start := make(chan bool)
		faults := make([]string, 8)
		for g := range faults {
			group.Go(func() {
				r := rand.New(rand.NewSource(int64(100*round + g)))
				<-start
				for range 5 {
					if f := fault(some(r, 15, 2), some(r, 15, 2)); f != "" {
						faults[g] = f
					}
					if f := fault(a, b); f != "" {
						faults[g] = f
					}
				}
			})
		}
		close(start)
		group.Wait()
		for g, f := range faults {
			if f != "" {
				t.Fatalf("R5: goroutine %d: %s", g, f)
			}
		}
	}
}
