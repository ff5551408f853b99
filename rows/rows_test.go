package rows_test

import (
	"math"
	"math/rand"
	"slices"
	"testing"

	"tatting/api"
	"tatting/rows"
)

const (
	lowest  = math.MinInt
	highest = math.MaxInt
	limit   = api.MaxTokens
)

// words follows the definition of L in chapter 8.
func words(a, b []int) int {
	if len(a) == 0 || len(b) == 0 {
		return 0
	}
	if a[0] == b[0] {
		return 1 + words(a[1:], b[1:])
	}
	return max(words(a[1:], b), words(a, b[1:]))
}

// length has L of longer lists: the greatest length of a chain of pairs, kept
// by the end of the chain in b.
func length(a, b []int) int {
	ends := make([]int, len(b))
	for _, x := range a {
		before := 0
		for j, y := range b {
			chain := before + 1
			before = max(before, ends[j])
			if x == y {
				ends[j] = max(ends[j], chain)
			}
		}
	}
	n := 0
	for _, e := range ends {
		n = max(n, e)
	}
	return n
}

// sum adds two numbers modulo 2^64.
func sum(x, y int) int {
	return int(uint64(x) + uint64(y))
}

// next follows the words of P10.1.
func next(row []int, sym int, b []int) []int {
	if len(row) != len(b)+1 {
		return nil
	}
	l := []int{row[0]}
	for j := range b {
		n := l[j]
		if n < row[j+1] {
			n = row[j+1]
		}
		if b[j] == sym {
			n = sum(row[j], 1)
		}
		l = append(l, n)
	}
	return l
}

// split follows the words of P10.1: the greatest sum, then the first index
// that has it.
func split(f, g []int) (int, int) {
	if len(f) == 0 || len(f) != len(g) {
		return 0, 0
	}
	var sums []int
	for j := range f {
		sums = append(sums, sum(f[j], g[j]))
	}
	greatest := slices.Max(sums)
	return slices.Index(sums, greatest), greatest
}

// lists calls use with every list of up to length of the given elements.
func lists(elements []int, length int, use func([]int)) {
	last := [][]int{nil}
	use(nil)
	for range length {
		var next [][]int
		for _, l := range last {
			for _, e := range elements {
				next = append(next, append(slices.Clone(l), e))
			}
		}
		for _, l := range next {
			use(l)
		}
		last = next
	}
}

// two calls use with every two lists of up to length of the given elements.
func two(elements []int, length int, use func(a, b []int)) {
	lists(elements, length, func(a []int) {
		lists(elements, length, func(b []int) {
			use(a, b)
		})
	})
}

// some returns up to length numbers out of few, about 0.
func some(r *rand.Rand, length, kinds int) []int {
	l := make([]int, r.Intn(length+1))
	for i := range l {
		l[i] = r.Intn(kinds) - kinds/2
	}
	return l
}

// wild returns n numbers, near 0 or near an end of the range of an int.
func wild(r *rand.Rand, n int) []int {
	l := make([]int, n)
	for i := range l {
		l[i] = sum([]int{lowest, -3, 0, highest, highest / 2}[r.Intn(5)], r.Intn(5))
	}
	return l
}

// reversed returns a copy from its end to its beginning.
func reversed(l []int) []int {
	l = slices.Clone(l)
	slices.Reverse(l)
	return l
}

// fill overwrites a list and its spare capacity.
func fill(l []int, with int) {
	l = l[:cap(l)]
	for i := range l {
		l[i] = with
	}
}

// checkNext holds Next against its words.
func checkNext(t *testing.T, row []int, sym int, b []int) {
	t.Helper()
	if got, want := rows.Next(row, sym, b), next(row, sym, b); !slices.Equal(got, want) {
		t.Fatalf("P10.1: Next(%d, %d, %d): %d, not %d", row, sym, b, got, want)
	}
}

// checkSplit holds Split against its words.
func checkSplit(t *testing.T, f, g []int) {
	t.Helper()
	j, s := rows.Split(f, g)
	if wantJ, want := split(f, g); j != wantJ || s != want {
		t.Fatalf("P10.1: Split(%d, %d): %d, %d, not %d, %d", f, g, j, s, wantJ, want)
	}
}

// checkEnds holds every number of Front and of Back against L of the lists
// that it is about.
func checkEnds(t *testing.T, a, b []int, l func(a, b []int) int) {
	t.Helper()
	front, back := rows.Front(a, b), rows.Back(a, b)
	if len(front) != len(b)+1 || len(back) != len(b)+1 {
		t.Fatalf("P10.1: Front(%d, %d): %d, Back: %d", a, b, front, back)
	}
	for j := range len(b) + 1 {
		if want := l(a, b[:j]); front[j] != want {
			t.Fatalf("P10.1: Front(%d, %d) at %d: %d, not %d", a, b, j, front[j], want)
		}
		if want := l(a, b[j:]); back[j] != want {
			t.Fatalf("P10.1: Back(%d, %d) at %d: %d, not %d", a, b, j, back[j], want)
		}
	}
}

// checkSteps holds Front of each beginning of a against Next applied number
// by number.
func checkSteps(t *testing.T, a, b []int) {
	t.Helper()
	row := make([]int, len(b)+1)
	for i := range len(a) + 1 {
		if got := rows.Front(a[:i], b); !slices.Equal(got, row) {
			t.Fatalf("P10.2: Front(%d, %d): %d, but Next by Next: %d", a[:i], b, got, row)
		}
		if i < len(a) {
			row = rows.Next(row, a[i], b)
		}
	}
}

// checkDivided divides a at every position, its ends among them.
func checkDivided(t *testing.T, a, b []int, want int) {
	t.Helper()
	for i := range len(a) + 1 {
		f, g := rows.Front(a[:i], b), rows.Back(a[i:], b)
		j, s := rows.Split(f, g)
		if s != want {
			t.Fatalf("P10.2: %d divided at %d, with %d: %d, not %d", a, i, b, s, want)
		}
		if wantJ, _ := split(f, g); j != wantJ {
			t.Fatalf("P10.1: Split(%d, %d): %d, not %d", f, g, j, wantJ)
		}
	}
}

// checkAll holds two lists against both promises.
func checkAll(t *testing.T, a, b []int, l func(a, b []int) int) {
	t.Helper()
	checkEnds(t, a, b, l)
	checkSteps(t, a, b)
	checkDivided(t, a, b, l(a, b))
}

// P10.1: the examples of the chapter.
func TestExamples(t *testing.T) {
	if got := rows.Next([]int{0, 0, 0}, 7, []int{7, 7}); !slices.Equal(got, []int{0, 1, 1}) {
		t.Errorf("P10.1: Next(0 0 0, 7, 7 7): %d", got)
	}
	if j, s := rows.Split([]int{0, 1}, []int{1, 1}); j != 1 || s != 2 {
		t.Errorf("P10.1: Split(0 1, 1 1): %d, %d", j, s)
	}
}

// P10.1: the edges of Next, with the result told.
func TestNextEdges(t *testing.T) {
	for _, c := range []struct {
		row  []int
		sym  int
		b    []int
		want []int
	}{
		// A row that is empty, shorter or longer than it should be.
		{nil, 0, nil, nil}, {[]int{}, 0, []int{}, nil}, {nil, 7, []int{7}, nil}, {[]int{}, 7, []int{7, 7}, nil},
		{[]int{0}, 7, []int{7}, nil}, {[]int{0, 0}, 7, []int{7, 7}, nil}, {[]int{0, 0}, 7, []int{7, 7, 7}, nil},
		{[]int{0, 0}, 7, nil, nil}, {[]int{0, 0, 0}, 7, []int{7}, nil}, {[]int{1, 2, 3, 4}, 7, []int{7, 7}, nil},

		// A row of one number.
		{[]int{0}, 7, nil, []int{0}}, {[]int{5}, 7, []int{}, []int{5}}, {[]int{-5}, 7, nil, []int{-5}},
		{[]int{lowest}, lowest, nil, []int{lowest}}, {[]int{highest}, 0, nil, []int{highest}},

		// Rows of the table.
		{[]int{0, 0}, 7, []int{7}, []int{0, 1}}, {[]int{0, 0}, 7, []int{8}, []int{0, 0}}, {[]int{0, 1}, 7, []int{7}, []int{0, 1}}, {[]int{0, 1}, 7, []int{8}, []int{0, 1}},
		{[]int{0, 0, 0, 0}, 2, []int{1, 2, 3}, []int{0, 0, 1, 1}}, {[]int{0, 0, 1, 1}, 3, []int{1, 2, 3}, []int{0, 0, 1, 2}},
		{[]int{0, 1, 1, 1}, 1, []int{1, 2, 1}, []int{0, 1, 1, 2}}, {[]int{0, 0, 0, 0}, 9, []int{1, 2, 3}, []int{0, 0, 0, 0}},

		// Rows that do not ascend: an equal number counts from row alone, any
		// other one carries the greater number on.
		{[]int{9, 0, 0}, 7, []int{8, 8}, []int{9, 9, 9}}, {[]int{3, 2, 1}, 7, []int{7, 8}, []int{3, 4, 4}}, {[]int{9, 0, 0}, 7, []int{8, 7}, []int{9, 9, 1}},
		{[]int{9, 0, 5, 2}, 7, []int{8, 7, 8}, []int{9, 9, 1, 2}}, {[]int{0, 9, 0}, 7, []int{7, 7}, []int{0, 1, 10}}, {[]int{0, 9, 0}, 7, []int{7, 8}, []int{0, 1, 1}},
		{[]int{5, 0, 0, 0}, 7, []int{7, 7, 8}, []int{5, 6, 1, 1}},

		// Numbers below 0.
		{[]int{-4, -9}, 1, []int{2}, []int{-4, -4}}, {[]int{-4, -9}, 1, []int{1}, []int{-4, -3}}, {[]int{-9, -4}, 1, []int{2}, []int{-9, -4}},
		{[]int{-1, -1, -1}, -1, []int{-1, -1}, []int{-1, 0, 0}}, {[]int{-2, -3, -4}, 0, []int{0, 5}, []int{-2, -1, -1}},

		// The least and the greatest number, in the row and as a token.
		{[]int{lowest, highest}, 1, []int{2}, []int{lowest, highest}}, {[]int{highest, lowest}, 1, []int{2}, []int{highest, highest}},
		{[]int{lowest, 0}, 1, []int{1}, []int{lowest, lowest + 1}}, {[]int{highest - 1, 0}, 1, []int{1}, []int{highest - 1, highest}},
		{[]int{0, 0, 0}, lowest, []int{highest, lowest}, []int{0, 0, 1}}, {[]int{0, 0, 0}, highest, []int{highest, lowest}, []int{0, 1, 1}},
		{[]int{0, 0}, 1, []int{1 + 1<<32}, []int{0, 0}}, {[]int{0, 0}, 1 << 31, []int{-1 << 31}, []int{0, 0}}, {[]int{0, 0}, 0, []int{lowest}, []int{0, 0}}, {[]int{0, 0}, -1, []int{highest}, []int{0, 0}},

		// A sum that wraps round.
		{[]int{highest, 0}, 1, []int{1}, []int{highest, lowest}}, {[]int{highest, highest, highest}, 1, []int{1, 1}, []int{highest, lowest, lowest}},
		{[]int{highest, highest, lowest}, 1, []int{1, 2}, []int{highest, lowest, lowest}}, {[]int{highest, 0, 5}, 1, []int{1, 2}, []int{highest, lowest, 5}},
		{[]int{highest, 0, lowest}, 1, []int{2, 1}, []int{highest, highest, 1}}, {[]int{-1, 0}, 1, []int{1}, []int{-1, 0}},
	} {
		if got := rows.Next(c.row, c.sym, c.b); !slices.Equal(got, c.want) {
			t.Errorf("P10.1: Next(%d, %d, %d): %d, not %d", c.row, c.sym, c.b, got, c.want)
		}
	}
}

// P10.1: Next of every short row and list, whether they fit or not.
func TestNextOfAllShortRows(t *testing.T) {
	lists([]int{1, 2}, 4, func(b []int) {
		lists([]int{-1, 0, 2, highest}, 4, func(row []int) {
			checkNext(t, row, 1, b)
		})
	})
	lists([]int{1, 2}, 3, func(b []int) {
		lists([]int{lowest, -1, 0, 1, highest}, 4, func(row []int) {
			checkNext(t, row, 2, b)
			checkNext(t, row, 3, b)
		})
	})
}

// P10.1: Next of longer rows of any numbers.
func TestNextOfManyRows(t *testing.T) {
	r := rand.New(rand.NewSource(101))
	for range 3000 {
		b := some(r, 80, 1+r.Intn(5))
		checkNext(t, wild(r, len(b)+1), r.Intn(5)-2, b)
		checkNext(t, some(r, 90, 200), r.Intn(5)-2, b)
		b = wild(r, r.Intn(80))
		checkNext(t, wild(r, len(b)+1), wild(r, 1)[0], b)
		checkNext(t, wild(r, len(b)), wild(r, 1)[0], b)
		checkNext(t, wild(r, len(b)+2), wild(r, 1)[0], b)
	}
}

// P10.1: the edges of Split, with both results told.
func TestSplitEdges(t *testing.T) {
	for _, c := range []struct {
		f, g   []int
		j, sum int
	}{
		// Empty lists, and lists of different lengths.
		{nil, nil, 0, 0}, {nil, []int{}, 0, 0}, {[]int{}, nil, 0, 0}, {[]int{}, []int{}, 0, 0},
		{[]int{1}, nil, 0, 0}, {nil, []int{1}, 0, 0}, {[]int{1}, []int{1, 2}, 0, 0}, {[]int{1, 2}, []int{1}, 0, 0},
		{[]int{-1, 5, 9}, []int{1, 2}, 0, 0}, {[]int{4, 9}, []int{1, 7, 9}, 0, 0}, {[]int{}, []int{3, 4}, 0, 0},

		// One number each.
		{[]int{3}, []int{4}, 0, 7}, {[]int{0}, []int{0}, 0, 0}, {[]int{-3}, []int{-4}, 0, -7}, {[]int{lowest}, []int{0}, 0, lowest}, {[]int{highest}, []int{0}, 0, highest},

		// The greatest sum at the beginning, within and at the end.
		{[]int{5, 1, 1}, []int{5, 1, 1}, 0, 10}, {[]int{1, 5, 1}, []int{1, 5, 1}, 1, 10}, {[]int{1, 1, 5}, []int{1, 1, 5}, 2, 10},
		{[]int{9, 0, 4}, []int{0, 8, 6}, 2, 10}, {[]int{0, 1, 2}, []int{2, 2, 0}, 1, 3},

		// Several equal sums.
		{[]int{0, 2, 2}, []int{2, 0, 0}, 0, 2}, {[]int{0, 0, 0}, []int{0, 0, 0}, 0, 0}, {[]int{0, 1, 2, 3}, []int{2, 2, 1, 0}, 1, 3},
		{[]int{1, 3, 0, 3}, []int{1, 3, 0, 3}, 1, 6}, {[]int{-1, -2}, []int{-2, -1}, 0, -3},

		// Sums below 0.
		{[]int{-5, -3}, []int{0, 0}, 1, -3}, {[]int{-3, -5}, []int{0, 0}, 0, -3}, {[]int{-5, -4, -3}, []int{-1, -1, -9}, 1, -5}, {[]int{lowest, lowest + 1}, []int{0, 0}, 1, lowest + 1},
		{[]int{lowest, lowest}, []int{0, 0}, 0, lowest},

		// Sums that wrap round.
		{[]int{highest, 0}, []int{1, 0}, 1, 0}, {[]int{highest}, []int{1}, 0, lowest}, {[]int{highest}, []int{highest}, 0, -2}, {[]int{lowest}, []int{lowest}, 0, 0},
		{[]int{lowest}, []int{-1}, 0, highest}, {[]int{7, lowest}, []int{7, -1}, 1, highest}, {[]int{lowest, 0}, []int{-1, highest}, 0, highest}, {[]int{highest, -4}, []int{highest, 1}, 0, -2},
	} {
		if j, s := rows.Split(c.f, c.g); j != c.j || s != c.sum {
			t.Errorf("P10.1: Split(%d, %d): %d, %d, not %d, %d", c.f, c.g, j, s, c.j, c.sum)
		}
	}
}

// P10.1: Split of every two short lists, and of longer ones.
func TestSplitOfAllLists(t *testing.T) {
	use := func(f, g []int) { checkSplit(t, f, g) }
	two([]int{-1, 0, 1}, 4, use)
	two([]int{lowest, -1, 0, 1, highest}, 3, use)
	r := rand.New(rand.NewSource(102))
	for range 3000 {
		n := r.Intn(60)
		use(wild(r, n), wild(r, n))
		use(wild(r, n), wild(r, n+1))
		use(some(r, 3, 4), some(r, 3, 4))
	}
}

// P10.1 and P10.2: the edges of Front and Back, with both results told.
func TestEnds(t *testing.T) {
	for _, c := range []struct{ a, b, front, back []int }{
		// Empty lists.
		{nil, nil, []int{0}, []int{0}}, {[]int{}, nil, []int{0}, []int{0}}, {nil, []int{}, []int{0}, []int{0}}, {[]int{}, []int{}, []int{0}, []int{0}},
		{nil, []int{4}, []int{0, 0}, []int{0, 0}}, {[]int{}, []int{4, 4, 4}, []int{0, 0, 0, 0}, []int{0, 0, 0, 0}},
		{[]int{4}, nil, []int{0}, []int{0}}, {[]int{4, 4, 4}, []int{}, []int{0}, []int{0}},

		// The same list twice.
		{[]int{5}, []int{5}, []int{0, 1}, []int{1, 0}}, {[]int{1, 2, 3}, []int{1, 2, 3}, []int{0, 1, 2, 3}, []int{3, 2, 1, 0}},
		{[]int{7, 7, 7}, []int{7, 7, 7}, []int{0, 1, 2, 3}, []int{3, 2, 1, 0}}, {[]int{1, 2, 1}, []int{1, 2, 1}, []int{0, 1, 2, 3}, []int{3, 2, 1, 0}},

		// Nothing alike.
		{[]int{0}, []int{1}, []int{0, 0}, []int{0, 0}}, {[]int{1, 2, 3}, []int{4, 5}, []int{0, 0, 0}, []int{0, 0, 0}}, {[]int{-1, -2}, []int{1, 2}, []int{0, 0, 0}, []int{0, 0, 0}},

		// One list within the other: at its beginning, its end, within, spread.
		{[]int{1, 2}, []int{1, 2, 3, 4}, []int{0, 1, 2, 2, 2}, []int{2, 1, 0, 0, 0}}, {[]int{3, 4}, []int{1, 2, 3, 4}, []int{0, 0, 0, 1, 2}, []int{2, 2, 2, 1, 0}},
		{[]int{2, 3}, []int{1, 2, 3, 4}, []int{0, 0, 1, 2, 2}, []int{2, 2, 1, 0, 0}}, {[]int{1, 4}, []int{1, 2, 3, 4}, []int{0, 1, 1, 1, 2}, []int{2, 1, 1, 1, 0}},
		{[]int{1, 2, 3, 4}, []int{1, 2}, []int{0, 1, 2}, []int{2, 1, 0}}, {[]int{1, 2, 3, 4}, []int{3, 4}, []int{0, 1, 2}, []int{2, 1, 0}}, {[]int{1, 2, 3, 4}, []int{1, 4}, []int{0, 1, 2}, []int{2, 1, 0}},
		{[]int{5}, []int{5, 5, 5}, []int{0, 1, 1, 1}, []int{1, 1, 1, 0}}, {[]int{5, 5, 5}, []int{5}, []int{0, 1}, []int{1, 0}},

		// Turned round, and lists of which parts are alike.
		{[]int{1, 2}, []int{2, 1}, []int{0, 1, 1}, []int{1, 1, 0}}, {[]int{1, 2, 3, 4}, []int{2, 9, 4, 3}, []int{0, 1, 1, 2, 2}, []int{2, 1, 1, 1, 0}},
		{[]int{2, 9, 4, 3}, []int{1, 2, 3, 4}, []int{0, 0, 1, 2, 2}, []int{2, 2, 1, 1, 0}}, {[]int{1, 2, 1, 3, 1}, []int{3, 1, 2, 1}, []int{0, 1, 2, 2, 3}, []int{3, 3, 2, 1, 0}},

		// Numbers of any size.
		{[]int{lowest, highest}, []int{lowest, highest}, []int{0, 1, 2}, []int{2, 1, 0}}, {[]int{lowest, highest}, []int{highest, lowest}, []int{0, 1, 1}, []int{1, 1, 0}},
		{[]int{lowest}, []int{highest, 0, -1}, []int{0, 0, 0, 0}, []int{0, 0, 0, 0}}, {[]int{1}, []int{1 + 1<<32, 257, -1}, []int{0, 0, 0, 0}, []int{0, 0, 0, 0}},
	} {
		if got := rows.Front(c.a, c.b); !slices.Equal(got, c.front) {
			t.Errorf("P10.1: Front(%d, %d): %d, not %d", c.a, c.b, got, c.front)
		}
		if got := rows.Back(c.a, c.b); !slices.Equal(got, c.back) {
			t.Errorf("P10.1: Back(%d, %d): %d, not %d", c.a, c.b, got, c.back)
		}
		checkAll(t, c.a, c.b, words)
		checkAll(t, c.b, c.a, words)
		checkAll(t, reversed(c.a), reversed(c.b), words)
	}
}

// P10.1 and P10.2: every two short lists against the definition.
func TestAllShortLists(t *testing.T) {
	use := func(a, b []int) { checkAll(t, a, b, words) }
	two([]int{1, 2}, 5, use)
	two([]int{-1, 0, 3}, 4, use)
	two([]int{lowest, highest}, 3, use)
}

// P10.1 and P10.2: longer lists, of few numbers and of many.
func TestManyLists(t *testing.T) {
	r := rand.New(rand.NewSource(103))
	for round := range 400 {
		kinds := 1 + r.Intn(1+round%40)
		checkAll(t, some(r, 50, kinds), some(r, 50, kinds), length)
	}
	for range 20 {
		a, b := some(r, 300, 6), some(r, 300, 6)
		checkSteps(t, a, b)
		checkDivided(t, a, b, length(a, b))
	}
}

// P10.1: long lists whose rows are known.
func TestLongLists(t *testing.T) {
	const n = 2000
	rising, equal := make([]int, n), make([]int, n)
	for i := range n {
		rising[i] = i
	}
	for j, x := range rows.Front(rising, rising) {
		if x != j {
			t.Fatalf("P10.1: Front of a list twice at %d: %d", j, x)
		}
	}
	for j, x := range rows.Back(rising, rising) {
		if x != n-j {
			t.Fatalf("P10.1: Back of a list twice at %d: %d", j, x)
		}
	}
	for j, x := range rows.Front(equal[:n/2], equal) {
		if x != min(j, n/2) {
			t.Fatalf("P10.1: Front of equal numbers at %d: %d", j, x)
		}
	}
	for j, x := range rows.Back(equal[:n/2], equal) {
		if x != min(n-j, n/2) {
			t.Fatalf("P10.1: Back of equal numbers at %d: %d", j, x)
		}
	}
	for j, x := range rows.Front(rising, reversed(rising)) {
		if x != min(j, 1) {
			t.Fatalf("P10.1: Front of a list and its reverse at %d: %d", j, x)
		}
	}
	for j, x := range rows.Back(rising, reversed(rising)) {
		if x != min(n-j, 1) {
			t.Fatalf("P10.1: Back of a list and its reverse at %d: %d", j, x)
		}
	}
}

// P10.1 and P10.2 at the limit: a long list beside a short one, and beside
// none.
func TestLimit(t *testing.T) {
	long := make([]int, limit)
	for i := range long {
		long[i] = i % 7
	}
	long[limit-1] = 9
	short := []int{6, 0, 8, 9}
	if got := rows.Front(long, short); !slices.Equal(got, []int{0, 1, 2, 2, 3}) {
		t.Errorf("P10.1: Front of %d numbers: %d", limit, got)
	}
	if got := rows.Back(long, short); !slices.Equal(got, []int{3, 2, 1, 1, 0}) {
		t.Errorf("P10.1: Back of %d numbers: %d", limit, got)
	}
	front, back := rows.Front(short, long), rows.Back(short, long)
	if len(front) != limit+1 || len(back) != limit+1 {
		t.Fatalf("P10.1: %d and %d numbers", len(front), len(back))
	}
	for j, want := range map[int][2]int{0: {0, 3}, 1: {1, 3}, 6: {1, 3}, 7: {1, 3}, 8: {2, 3}, limit - 1: {2, 1}, limit: {3, 0}} {
		if front[j] != want[0] || back[j] != want[1] {
			t.Errorf("P10.1: at %d: Front %d, Back %d, not %d", j, front[j], back[j], want)
		}
	}
	for _, i := range []int{0, 1, 2, 3, 4} {
		if _, s := rows.Split(rows.Front(short[:i], long), rows.Back(short[i:], long)); s != 3 {
			t.Errorf("P10.2: divided at %d: %d", i, s)
		}
	}
	for _, i := range []int{0, 1, 7, limit / 2, limit - 1, limit} {
		if _, s := rows.Split(rows.Front(long[:i], short), rows.Back(long[i:], short)); s != 3 {
			t.Errorf("P10.2: divided at %d: %d", i, s)
		}
	}
	if got := rows.Front(nil, long); len(got) != limit+1 || slices.Max(got) != 0 {
		t.Errorf("P10.1: Front(none, %d numbers): %d numbers", limit, len(got))
	}
	if got := rows.Back(long, nil); !slices.Equal(got, []int{0}) {
		t.Errorf("P10.1: Back(%d numbers, none): %d", limit, got)
	}
	// A row with room for one number more than the limit, as it fits b.
	if got := rows.Next(front, 9, long); !slices.Equal(got, next(front, 9, long)) {
		t.Errorf("P10.1: Next of %d numbers", limit+1)
	}
}

// R1: no arguments make a call panic, also above the limit.
func TestNoPanic(t *testing.T) {
	all := func(a, b []int) {
		for _, sym := range []int{lowest, -1, 0, highest} {
			rows.Next(a, sym, b)
			rows.Next(b, sym, a)
		}
		rows.Front(a, b)
		rows.Back(a, b)
		rows.Split(a, b)
	}
	two([]int{lowest, 0, highest}, 4, all)
	long := make([]int, limit+2)
	for _, short := range [][]int{nil, {}, {0}, {1, 0}} {
		all(long, short)
		all(short, long)
	}
	rows.Next(long, 0, long[1:])
	rows.Next(long, 0, long)
	rows.Split(long, long)
	rows.Split(long, long[1:])
}

// R4: no call modifies an argument or its spare capacity, which is no part of
// a list, and no change of a result changes one.
func TestArgumentsStay(t *testing.T) {
	a, b := []int{1, 2, 1, 3, 1, 2, 2}, []int{2, 1, 1, 3, 1, 2}
	keptA, keptB := slices.Clone(a), slices.Clone(b)
	for n := range len(a) + 1 {
		for m := range len(b) + 1 {
			checkAll(t, a[:n], b[:m], words)
			checkNext(t, a[:n], 1, b[:m])
			checkNext(t, a[:m+1], 2, b[:m])
			checkSplit(t, a[:n], b[:m])
			checkSplit(t, a[:m], b[:m])
			fill(rows.Front(a[:n], b[:m]), -7)
			fill(rows.Back(a[:n], b[:m]), -7)
			fill(rows.Next(a[:n], 1, b[:m]), -7)
			fill(rows.Next(a[:m+1], 1, b[:m]), -7)
			if !slices.Equal(a, keptA) || !slices.Equal(b, keptB) {
				t.Fatalf("R4: a list was modified: %d, %d", a, b)
			}
		}
	}
}

// R4 and R5: results are new memory each time: whoever changes one, or an
// argument, changes no other result. A row of one number, and rows of empty
// lists, are new too.
func TestResultsAreNew(t *testing.T) {
	for name, call := range map[string]func(a, b []int) []int{
		"Front": rows.Front, "Back": rows.Back,
		"Next": func(a, b []int) []int { return rows.Next(a, 2, b) },
	} {
		for _, c := range [][2][]int{{{1, 2, 3, 1, 2}, {2, 3, 1, 2}}, {{4}, nil}, {{0, 5}, {2}}, {{0, 5}, {3}}, {nil, {2}}, {nil, nil}} {
			for _, spare := range []int{0, 1, 20} {
				a, b := append(make([]int, 0, len(c[0])+spare), c[0]...), append(make([]int, 0, len(c[1])+spare), c[1]...)
				first := call(a, b)
				want := slices.Clone(first)
				second := call(a, b)
				fill(first, -7)
				fill(append(first, -8), -8)
				third := call(a, b)
				fill(a, -9)
				fill(b, -10)
				if !slices.Equal(second, want) || !slices.Equal(third, want) {
					t.Errorf("R4: %s(%d, %d): %d, %d, not %d", name, c[0], c[1], second, third, want)
				}
			}
		}
	}
}

// R5: answers hang on the arguments alone: the lists may be one piece of
// memory or several, and what was asked before does not matter.
func TestAnswersStay(t *testing.T) {
	whole := []int{1, 2, 3, 2, 3, 1}
	for range 4 {
		checkAll(t, whole, whole, words)
		checkAll(t, whole[:3], whole[3:], words)
		checkAll(t, whole[3:], whole[:3], words)
		checkAll(t, whole[:4], whole[2:], words)
		checkAll(t, nil, whole, words)
		checkAll(t, whole, nil, words)
		checkNext(t, whole, 3, whole[1:])
		checkNext(t, whole, 3, whole[:5])
		checkNext(t, whole[3:], 2, whole[:2])
		checkNext(t, whole, 3, whole)
		checkSplit(t, whole, whole)
		checkSplit(t, whole[1:], whole[:5])
		checkSplit(t, whole[1:], whole)
	}
}
