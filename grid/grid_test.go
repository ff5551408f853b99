package grid_test

import (
	"math"
	"math/rand"
	"slices"
	"testing"

	"tatting/api"
	"tatting/grid"
)

const (
	least = math.MinInt
	most  = math.MaxInt
	limit = api.MaxTokens
)

// words follows the chapter's definition of L.
func words(a, b []int) int {
	if len(a) == 0 || len(b) == 0 {
		return 0
	}
	if a[0] == b[0] {
		return 1 + words(a[1:], b[1:])
	}
	return max(words(a[1:], b), words(a, b[1:]))
}

// within reports whether s is a subsequence of b.
func within(s, b []int) bool {
	for _, x := range s {
		at := slices.Index(b, x)
		if at < 0 {
			return false
		}
		b = b[at+1:]
	}
	return true
}

// longest looks at every subsequence of a for the longest one of b.
func longest(a, b []int) int {
	n := 0
	for chosen := range 1 << len(a) {
		var s []int
		for i, x := range a {
			if chosen>>i&1 == 1 {
				s = append(s, x)
			}
		}
		if len(s) > n && within(s, b) {
			n = len(s)
		}
	}
	return n
}

// length has L of longer lists: the greatest length of a chain of pairs, kept
// by the end of the chain in b.
func length(a, b []int) int {
	ends := make([]int, len(b))
	for _, x := range a {
		before := 0
		for j, y := range b {
			chain := before + 1
			before = max(before, ends[j])
			if x == y {
				ends[j] = max(ends[j], chain)
			}
		}
	}
	n := 0
	for _, e := range ends {
		n = max(n, e)
	}
	return n
}

// good follows the words of chapter 7.
func good(a, b []int, l []api.Pair) bool {
	for k, p := range l {
		if p.I < 0 || p.I >= len(a) || p.J < 0 || p.J >= len(b) || a[p.I] != b[p.J] {
			return false
		}
		if k > 0 && (p.I <= l[k-1].I || p.J <= l[k-1].J) {
			return false
		}
	}
	return true
}

// lists calls use with every list of up to length of the given elements.
func lists(elements []int, length int, use func([]int)) {
	last := [][]int{nil}
	use(nil)
	for range length {
		var next [][]int
		for _, l := range last {
			for _, e := range elements {
				next = append(next, append(slices.Clone(l), e))
			}
		}
		for _, l := range next {
			use(l)
		}
		last = next
	}
}

// two calls use with every two lists of up to length of the given elements.
func two(elements []int, length int, use func(a, b []int)) {
	lists(elements, length, func(a []int) {
		lists(elements, length, func(b []int) {
			use(a, b)
		})
	})
}

// some returns up to length numbers out of few, about 0.
func some(r *rand.Rand, length, kinds int) []int {
	l := make([]int, r.Intn(length+1))
	for i := range l {
		l[i] = r.Intn(kinds) - kinds/2
	}
	return l
}

// reversed returns a copy from its end to its beginning.
func reversed[E any](l []E) []E {
	l = slices.Clone(l)
	slices.Reverse(l)
	return l
}

// copied returns a copy of a table.
func copied(t [][]int) [][]int {
	t = slices.Clone(t)
	for i := range t {
		t[i] = slices.Clone(t[i])
	}
	return t
}

// same reports whether two tables have the same numbers.
func same(x, y [][]int) bool {
	return slices.EqualFunc(x, y, slices.Equal[[]int])
}

// fill overwrites a list and its spare capacity.
func fill[E any](l []E, with E) {
	l = l[:cap(l)]
	for i := range l {
		l[i] = with
	}
}

// spoil overwrites every list of a table, then the table itself.
func spoil(t [][]int) {
	for _, l := range t {
		fill(l, -7)
	}
	fill(t, nil)
}

// check holds Len, Dist and Run of two lists against L.
func check(t *testing.T, a, b []int, want int) {
	t.Helper()
	if got := grid.Len(a, b); got != want {
		t.Fatalf("P8.1: Len(%d, %d): %d, not %d", a, b, got, want)
	}
	if got := grid.Dist(a, b); got != len(a)+len(b)-2*want {
		t.Fatalf("P8.1: Dist(%d, %d): %d with L %d", a, b, got, want)
	}
	l, steps := grid.Run(a, b)
	if !good(a, b, l) || len(l) != want {
		t.Fatalf("P8.1: Run(%d, %d): %v with L %d", a, b, l, want)
	}
	if steps != int64(len(a))*int64(len(b)) {
		t.Fatalf("P8.1: Run(%d, %d): %d steps", a, b, steps)
	}
}

// checkTables holds every number of Behind and of Ahead against L of the
// lists that it is about.
func checkTables(t *testing.T, a, b []int, l func(a, b []int) int) {
	t.Helper()
	behind, ahead := grid.Behind(a, b), grid.Ahead(a, b)
	if len(behind) != len(a)+1 || len(ahead) != len(a)+1 {
		t.Fatalf("P8.1: Behind(%d, %d): %d lists, Ahead: %d lists", a, b, len(behind), len(ahead))
	}
	for i := range len(a) + 1 {
		if len(behind[i]) != len(b)+1 || len(ahead[i]) != len(b)+1 {
			t.Fatalf("P8.1: Behind(%d, %d): %d numbers in list %d, Ahead: %d", a, b, len(behind[i]), i, len(ahead[i]))
		}
		for j := range len(b) + 1 {
			if want := l(a[i:], b[j:]); behind[i][j] != want {
				t.Fatalf("P8.1: Behind(%d, %d) at %d, %d: %d, not %d", a, b, i, j, behind[i][j], want)
			}
			if want := l(a[:i], b[:j]); ahead[i][j] != want {
				t.Fatalf("P8.1: Ahead(%d, %d) at %d, %d: %d, not %d", a, b, i, j, ahead[i][j], want)
			}
		}
	}
}

// P8.1: the examples of the chapter.
func TestExamples(t *testing.T) {
	a, b := []int{1, 2, 3, 4}, []int{2, 9, 4, 3}
	if got := grid.Len(a, b); got != 2 {
		t.Errorf("P8.1: Len(1 2 3 4, 2 9 4 3): %d", got)
	}
	if got := grid.Dist(a, b); got != 4 {
		t.Errorf("P8.1: Dist(1 2 3 4, 2 9 4 3): %d", got)
	}
	check(t, a, b, 2)
	if got := grid.Behind(a, b); !same(got, [][]int{{2, 1, 1, 1, 0}, {2, 1, 1, 1, 0}, {1, 1, 1, 1, 0}, {1, 1, 1, 0, 0}, {0, 0, 0, 0, 0}}) {
		t.Errorf("P8.1: Behind(1 2 3 4, 2 9 4 3): %d", got)
	}
	if got := grid.Ahead(a, b); !same(got, [][]int{{0, 0, 0, 0, 0}, {0, 0, 0, 0, 0}, {0, 1, 1, 1, 1}, {0, 1, 1, 1, 2}, {0, 1, 1, 2, 2}}) {
		t.Errorf("P8.1: Ahead(1 2 3 4, 2 9 4 3): %d", got)
	}
}

// P8.1: the edges, with L told.
func TestEdges(t *testing.T) {
	for _, c := range []struct {
		a, b []int
		want int
	}{
		{nil, nil, 0}, {nil, []int{}, 0}, {[]int{}, nil, 0}, {[]int{}, []int{}, 0},
		{nil, []int{1}, 0}, {[]int{1}, nil, 0}, {[]int{}, []int{0, 0, 0}, 0}, {[]int{0, 0, 0}, []int{}, 0},

		// The same list twice.
		{[]int{0}, []int{0}, 1}, {[]int{1, 2, 3, 2, 1}, []int{1, 2, 3, 2, 1}, 5}, {[]int{7, 7, 7}, []int{7, 7, 7}, 3},

		// Nothing alike.
		{[]int{0}, []int{1}, 0}, {[]int{1, 2, 3}, []int{4, 5, 6, 7}, 0}, {[]int{1, 1, 1}, []int{2, 2}, 0},

		// One list within the other: at its beginning, its end, within, spread.
		{[]int{1, 2}, []int{1, 2, 3, 4}, 2}, {[]int{3, 4}, []int{1, 2, 3, 4}, 2}, {[]int{2, 3}, []int{1, 2, 3, 4}, 2}, {[]int{1, 4}, []int{1, 2, 3, 4}, 2},
		{[]int{5}, []int{5, 5, 5}, 1}, {[]int{5, 5}, []int{5, 5, 5}, 2}, {[]int{4, 4}, []int{4, 3, 3, 4}, 2},

		// Turned round, shifted by one, and alike at one end alone.
		{[]int{1, 2}, []int{2, 1}, 1}, {[]int{1, 2, 3, 4, 5}, []int{5, 4, 3, 2, 1}, 1}, {[]int{1, 2, 3, 4}, []int{2, 3, 4, 1}, 3},
		{[]int{1, 2, 3}, []int{1, 8, 9}, 1}, {[]int{1, 2, 3}, []int{8, 9, 3}, 1}, {[]int{1, 2, 3, 4}, []int{1, 9, 9, 4}, 2},

		// Where the first equal number, or the nearest one, is not the one to take.
		{[]int{1, 2, 3, 4}, []int{2, 3, 4, 1}, 3}, {[]int{9, 1, 2, 3}, []int{1, 2, 3, 9}, 3}, {[]int{1, 2, 3, 9}, []int{9, 1, 2, 3}, 3},
		{[]int{1, 2, 1, 3, 1}, []int{3, 1, 2, 1}, 3}, {[]int{1, 3, 2, 2}, []int{2, 2, 1, 3}, 2},

		// Numbers of any size.
		{[]int{-1}, []int{1}, 0}, {[]int{-1, -2, -3}, []int{-3, -1, -2}, 2}, {[]int{-5, 0, 5}, []int{-5, 5}, 2},
		{[]int{least}, []int{most}, 0}, {[]int{least, most}, []int{least, most}, 2}, {[]int{least, most}, []int{most, least}, 1},
		{[]int{least, 0, most}, []int{most, 0, most, least}, 2}, {[]int{0, least}, []int{least}, 1},
		{[]int{1}, []int{1 + 1<<32}, 0}, {[]int{1 << 31}, []int{-1 << 31}, 0}, {[]int{least}, []int{0}, 0}, {[]int{most}, []int{-1}, 0}, {[]int{256}, []int{0}, 0},
	} {
		check(t, c.a, c.b, c.want)
		check(t, c.b, c.a, c.want)
		check(t, reversed(c.a), reversed(c.b), c.want)
		checkTables(t, c.a, c.b, words)
		checkTables(t, c.b, c.a, words)
	}
}

// P8.1: a table of empty lists has their numbers, too.
func TestTablesOfEmptyLists(t *testing.T) {
	for _, empty := range [][]int{nil, {}} {
		for name, call := range map[string]func(a, b []int) [][]int{"Behind": grid.Behind, "Ahead": grid.Ahead} {
			if got := call(empty, nil); !same(got, [][]int{{0}}) {
				t.Errorf("P8.1: %s(none, none): %d", name, got)
			}
			if got := call(empty, []int{4, 4, 4}); !same(got, [][]int{{0, 0, 0, 0}}) {
				t.Errorf("P8.1: %s(none, 4 4 4): %d", name, got)
			}
			if got := call([]int{4, 4, 4}, empty); !same(got, [][]int{{0}, {0}, {0}, {0}}) {
				t.Errorf("P8.1: %s(4 4 4, none): %d", name, got)
			}
			if got := call(empty, empty); !same(got, [][]int{{0}}) {
				t.Errorf("P8.1: %s(none, none): %d", name, got)
			}
		}
	}
}

// P8.1: every two short lists against the definition.
func TestAllShortLists(t *testing.T) {
	use := func(a, b []int) {
		check(t, a, b, words(a, b))
		checkTables(t, a, b, words)
	}
	two([]int{1, 2}, 5, use)
	two([]int{-1, 0, 3}, 3, use)
}

// P8.2: no common subsequence is longer than L, and one is as long: every
// subsequence of every short list is looked at.
func TestLongest(t *testing.T) {
	two([]int{1, 2}, 6, func(a, b []int) {
		if got, want := grid.Len(a, b), longest(a, b); got != want {
			t.Fatalf("P8.2: Len(%d, %d): %d, not %d", a, b, got, want)
		}
	})
	r := rand.New(rand.NewSource(82))
	for range 300 {
		kinds := 1 + r.Intn(5)
		a, b := some(r, 11, kinds), some(r, 15, kinds)
		want := longest(a, b)
		check(t, a, b, want)
		check(t, b, a, want)
	}
}

// P8.1: longer lists, of few numbers and of many.
func TestManyLists(t *testing.T) {
	r := rand.New(rand.NewSource(81))
	for round := range 600 {
		kinds := 1 + r.Intn(1+round%40)
		a, b := some(r, 150, kinds), some(r, 150, kinds)
		check(t, a, b, length(a, b))
		if round%4 == 0 {
			a, b = a[:min(len(a), 14)], b[:min(len(b), 14)]
			checkTables(t, a, b, length)
		}
	}
}

// P8.1: lists about the lengths at which the words of a bit vector end.
func TestLengths(t *testing.T) {
	r := rand.New(rand.NewSource(64))
	for _, n := range []int{1, 63, 64, 65, 127, 128, 129, 200} {
		for _, m := range []int{1, 63, 64, 65, 127, 128, 129, 193} {
			a, b := make([]int, n), make([]int, m)
			for i := range a {
				a[i] = r.Intn(4)
			}
			for j := range b {
				b[j] = r.Intn(4)
			}
			check(t, a, b, length(a, b))
			// The only equal number is the last one of each.
			a, b = make([]int, n), make([]int, m)
			fill(b, 1)
			a[n-1] = 1
			check(t, a, b, 1)
			fill(b, 2)
			b[m-1] = 1
			check(t, a, b, 1)
		}
	}
}

// P8.2: both lists exchanged, both reversed.
func TestExchangedAndReversed(t *testing.T) {
	use := func(a, b []int) {
		n := grid.Len(a, b)
		for _, c := range [][2][]int{{b, a}, {reversed(a), reversed(b)}, {reversed(b), reversed(a)}} {
			if got := grid.Len(c[0], c[1]); got != n {
				t.Fatalf("P8.2: Len(%d, %d): %d, but Len(%d, %d): %d", a, b, n, c[0], c[1], got)
			}
			if got, want := grid.Dist(c[0], c[1]), grid.Dist(a, b); got != want {
				t.Fatalf("P8.2: Dist(%d, %d): %d, but Dist(%d, %d): %d", a, b, want, c[0], c[1], got)
			}
		}
		back := grid.Ahead(reversed(a), reversed(b))
		for i := range back {
			back[i] = reversed(back[i])
		}
		if got := grid.Behind(a, b); !same(got, reversed(back)) {
			t.Fatalf("P8.2: Behind(%d, %d): %d, but Ahead of both reversed: %d", a, b, got, back)
		}
		ahead, turned := grid.Ahead(a, b), grid.Ahead(b, a)
		for i := range ahead {
			for j := range turned {
				if ahead[i][j] != turned[j][i] {
					t.Fatalf("P8.2: Ahead(%d, %d) at %d, %d: %d, exchanged: %d", a, b, i, j, ahead[i][j], turned[j][i])
				}
			}
		}
	}
	two([]int{0, 1, 2}, 4, use)
	r := rand.New(rand.NewSource(822))
	for range 400 {
		kinds := 1 + r.Intn(8)
		use(some(r, 60, kinds), some(r, 60, kinds))
	}
}

// P8.2: one number more, ahead or behind, in one of the lists.
func TestOneMore(t *testing.T) {
	raised, stayed := 0, 0
	use := func(a, b []int, x int) {
		n := grid.Len(a, b)
		for _, c := range [][2][]int{
			{append(slices.Clone(a), x), b}, {append([]int{x}, a...), b},
			{a, append(slices.Clone(b), x)}, {a, append([]int{x}, b...)},
		} {
			switch grid.Len(c[0], c[1]) - n {
			case 0:
				stayed++
			case 1:
				raised++
			default:
				t.Fatalf("P8.2: Len(%d, %d): %d, but Len(%d, %d): %d", a, b, n, c[0], c[1], grid.Len(c[0], c[1]))
			}
		}
	}
	two([]int{0, 1}, 5, func(a, b []int) {
		use(a, b, 0)
		use(a, b, 1)
		use(a, b, 2)
	})
	r := rand.New(rand.NewSource(823))
	for range 1000 {
		kinds := 1 + r.Intn(8)
		use(some(r, 50, kinds), some(r, 50, kinds), r.Intn(kinds)-kinds/2)
	}
	if raised == 0 || stayed == 0 {
		t.Fatalf("P8.2: L was raised %d times and stayed %d times", raised, stayed)
	}
}

// P8.1: long lists whose L is known.
func TestLongLists(t *testing.T) {
	const n = 3000
	rising, equal, odd, other := make([]int, n), make([]int, n), make([]int, n/2), make([]int, n)
	for i := range n {
		rising[i], other[i] = i, -1-i
	}
	for i := range odd {
		odd[i] = 2*i + 1
	}
	for _, c := range []struct {
		a, b []int
		want int
	}{
		{rising, rising, n}, {equal, equal, n}, {equal, equal[:n/3], n / 3}, {rising, reversed(rising), 1},
		{rising, odd, n / 2}, {rising, other, 0}, {rising[1:], rising[:n-1], n - 2}, {slices.Concat(rising[n/2:], rising[:n/2]), rising, n / 2},
	} {
		check(t, c.a, c.b, c.want)
		check(t, c.b, c.a, c.want)
	}
}

// P8.1 at the limit: a long list beside a short one, and beside none.
func TestLimit(t *testing.T) {
	long := make([]int, limit)
	for i := range long {
		long[i] = i % 7
	}
	long[limit-1] = 9
	short := []int{6, 0, 8, 9}
	for _, c := range []struct {
		b    []int
		want int
	}{{nil, 0}, {short, 3}, {[]int{9}, 1}, {[]int{8}, 0}, {[]int{0, 1}, 2}} {
		for _, p := range [][2][]int{{long, c.b}, {c.b, long}} {
			a, b := p[0], p[1]
			l, steps := grid.Run(a, b)
			if grid.Len(a, b) != c.want || grid.Dist(a, b) != limit+len(c.b)-2*c.want || len(l) != c.want || !good(a, b, l) {
				t.Errorf("P8.1: %d and %d numbers: Len %d, Dist %d, Run %v", len(a), len(b), grid.Len(a, b), grid.Dist(a, b), l)
			}
			if steps != int64(limit*len(c.b)) {
				t.Errorf("P8.1: Run of %d and %d numbers: %d steps", len(a), len(b), steps)
			}
		}
	}
	behind, ahead := grid.Behind(long, short), grid.Ahead(long, short)
	if len(behind) != limit+1 || len(ahead) != limit+1 {
		t.Fatalf("P8.1: %d and %d lists", len(behind), len(ahead))
	}
	for i, want := range map[int][2][]int{
		0:         {{3, 2, 1, 1, 0}, {0, 0, 0, 0, 0}},
		7:         {{3, 2, 1, 1, 0}, {0, 1, 1, 1, 1}},
		limit - 1: {{1, 1, 1, 1, 0}, {0, 1, 2, 2, 2}},
		limit:     {{0, 0, 0, 0, 0}, {0, 1, 2, 2, 3}},
	} {
		if !slices.Equal(behind[i], want[0]) || !slices.Equal(ahead[i], want[1]) {
			t.Errorf("P8.1: list %d: Behind %d, Ahead %d", i, behind[i], ahead[i])
		}
	}
	behind, ahead = grid.Behind(short, long), grid.Ahead(short, long)
	if len(behind) != 5 || len(ahead) != 5 || len(behind[4]) != limit+1 || len(ahead[0]) != limit+1 {
		t.Fatalf("P8.1: tables of %d numbers", limit)
	}
	if behind[0][0] != 3 || behind[0][limit-1] != 1 || behind[0][limit] != 0 || ahead[4][limit] != 3 || ahead[4][limit-1] != 2 || ahead[0][limit] != 0 {
		t.Errorf("P8.1: numbers of tables of %d numbers", limit)
	}
}

// R1: no lists make a call panic, also above the limit.
func TestNoPanic(t *testing.T) {
	all := func(a, b []int) {
		grid.Len(a, b)
		grid.Dist(a, b)
		grid.Behind(a, b)
		grid.Ahead(a, b)
		grid.Run(a, b)
	}
	two([]int{least, 0, most}, 3, all)
	long := make([]int, limit+1)
	for _, short := range [][]int{nil, {}, {0}, {1, 0}} {
		all(long, short)
		all(short, long)
	}
}

// R4: no call modifies an argument or its spare capacity, which is no part of
// a list, and no change of a result changes one.
func TestArgumentsStay(t *testing.T) {
	a, b := []int{1, 2, 1, 3, 1, 2, 2}, []int{2, 1, 1, 3, 1, 2}
	keptA, keptB := slices.Clone(a), slices.Clone(b)
	for n := range len(a) + 1 {
		for m := range len(b) + 1 {
			check(t, a[:n], b[:m], words(keptA[:n], keptB[:m]))
			check(t, b[:m], b, m)
			check(t, a, a[:n], n)
			checkTables(t, a[:n], b[:m], words)
			spoil(grid.Behind(a[:n], b[:m]))
			spoil(grid.Ahead(a[:n], b[:m]))
			l, _ := grid.Run(a[:n], b[:m])
			fill(l, api.Pair{I: -7, J: -7})
			if !slices.Equal(a, keptA) || !slices.Equal(b, keptB) {
				t.Fatalf("R4: a list was modified: %d, %d", a, b)
			}
		}
	}
}

// R4: no list of a table shares memory with another, spare capacity among it.
func TestListsOfTablesAreApart(t *testing.T) {
	for _, c := range [][2][]int{{{1, 2, 3}, {3, 1, 2, 3}}, {{4, 4}, nil}, {{4, 4, 5}, {6}}} {
		for name, call := range map[string]func(a, b []int) [][]int{"Behind": grid.Behind, "Ahead": grid.Ahead} {
			want := copied(call(c[0], c[1]))
			for i := range want {
				got := call(c[0], c[1])
				fill(got[i], -7)
				got[i] = append(got[i], -8)
				fill(got[i], -7)
				for k := range got {
					if k != i && !slices.Equal(got[k], want[k]) {
						t.Fatalf("R4: %s(%d, %d): lists %d and %d share memory", name, c[0], c[1], i, k)
					}
				}
			}
		}
	}
}

// R4 and R5: results are new memory each time: whoever changes one, or an
// argument, changes no other result.
func TestResultsAreNew(t *testing.T) {
	for _, spare := range []int{0, 1, 20} {
		a := append(make([]int, 0, 5+spare), 1, 2, 3, 1, 2)
		b := append(make([]int, 0, 4+spare), 2, 3, 1, 2)
		for name, call := range map[string]func(a, b []int) [][]int{"Behind": grid.Behind, "Ahead": grid.Ahead} {
			want := copied(call(a, b))
			first, second := call(a, b), call(a, b)
			spoil(first)
			third := call(a, b)
			keptA, keptB := slices.Clone(a), slices.Clone(b)
			fill(a, -7)
			fill(b, -8)
			if !same(second, want) || !same(third, want) {
				t.Errorf("R4: %s: the result shares memory", name)
			}
			copy(a, keptA)
			copy(b, keptB)
		}
		l, _ := grid.Run(a, b)
		want := slices.Clone(l)
		second, _ := grid.Run(a, b)
		fill(l, api.Pair{I: -7, J: -7})
		third, steps := grid.Run(a, b)
		fill(a, -7)
		fill(b, -8)
		if len(want) != 4 || !slices.Equal(second, want) || !slices.Equal(third, want) || steps != 20 {
			t.Errorf("R4: Run: %v, %v, not %v", second, third, want)
		}
	}
}

// R5: answers hang on the arguments alone: the lists may be one piece of
// memory or several, and what was asked before does not matter.
func TestAnswersStay(t *testing.T) {
	whole := []int{1, 2, 3, 2, 3, 1}
	for round := range 4 {
		check(t, whole, whole, 6)
		check(t, whole[:3], whole[3:], 2)
		check(t, whole[3:], whole[:3], 2)
		check(t, whole[:4], whole[2:], 2)
		check(t, nil, whole, 0)
		checkTables(t, whole[:5], whole[1:], words)
		l, _ := grid.Run(whole, whole[3:])
		again, _ := grid.Run(slices.Clone(whole), slices.Clone(whole[3:]))
		if !slices.Equal(l, again) {
			t.Errorf("R5: Run, round %d: %v, then %v", round, l, again)
		}
	}
}
