package least_test

import (
	"math"
	"math/rand"
	"slices"
	"testing"

	"tatting/api"
	"tatting/least"
)

const (
	lowest  = math.MinInt
	highest = math.MaxInt
	limit   = api.MaxTokens
)

// of makes a list of pairs of numbers, two and two.
func of(n ...int) []api.Pair {
	var l []api.Pair
	for k := 0; k+1 < len(n); k += 2 {
		l = append(l, api.Pair{I: n[k], J: n[k+1]})
	}
	return l
}

// good follows the words of chapter 7.
func good(a, b []int, l []api.Pair) bool {
	for k, p := range l {
		if p.I < 0 || p.I >= len(a) || p.J < 0 || p.J >= len(b) || a[p.I] != b[p.J] {
			return false
		}
		if k > 0 && (p.I <= l[k-1].I || p.J <= l[k-1].J) {
			return false
		}
	}
	return true
}

// less follows the words of chapter 7: it lays out both sequences of numbers.
func less(x, y []api.Pair) bool {
	var p, q []int
	for _, e := range x {
		p = append(p, e.I, e.J)
	}
	for _, e := range y {
		q = append(q, e.I, e.J)
	}
	return slices.Compare(p, q) < 0
}

// valid returns all valid lists of a and b that begin with l, of any length.
func valid(a, b []int, l []api.Pair) [][]api.Pair {
	all := [][]api.Pair{slices.Clone(l)}
	i, j := 0, 0
	if len(l) > 0 {
		i, j = l[len(l)-1].I+1, l[len(l)-1].J+1
	}
	for x := i; x < len(a); x++ {
		for y := j; y < len(b); y++ {
			if a[x] == b[y] {
				all = append(all, valid(a, b, append(slices.Clone(l), api.Pair{I: x, J: y}))...)
			}
		}
	}
	return all
}

// words follows the words of P9.1: the longest of all lists, and of these the
// least.
func words(all [][]api.Pair) []api.Pair {
	var l []api.Pair
	for _, x := range all {
		if len(x) > len(l) || len(x) == len(l) && less(x, l) {
			l = x
		}
	}
	return l
}

// chained has the least list of longer lists: the length of the longest chain
// of pairs from each pair on, then the first pair of all that can go on with
// as many as are missing.
func chained(a, b []int) []api.Pair {
	chains := make([][]int, len(a)+1)
	chains[len(a)] = make([]int, len(b)+1)
	for i := len(a) - 1; i >= 0; i-- {
		chains[i] = slices.Clone(chains[i+1])
		for j := len(b) - 1; j >= 0; j-- {
			chains[i][j] = max(chains[i][j], chains[i][j+1])
			if a[i] == b[j] {
				chains[i][j] = max(chains[i][j], chains[i+1][j+1]+1)
			}
		}
	}
	var l []api.Pair
	from := 0
	for i := range a {
		for j := from; j < len(b); j++ {
			if a[i] == b[j] && len(l)+1+chains[i+1][j+1] == chains[0][0] {
				l = append(l, api.Pair{I: i, J: j})
				from = j + 1
				break
			}
		}
	}
	return l
}

// lists calls use with every list of up to length of the given elements.
func lists(elements []int, length int, use func([]int)) {
	last := [][]int{nil}
	use(nil)
	for range length {
		var next [][]int
		for _, l := range last {
			for _, e := range elements {
				next = append(next, append(slices.Clone(l), e))
			}
		}
		for _, l := range next {
			use(l)
		}
		last = next
	}
}

// two calls use with every two lists of up to length of the given elements.
func two(elements []int, length int, use func(a, b []int)) {
	lists(elements, length, func(a []int) {
		lists(elements, length, func(b []int) {
			use(a, b)
		})
	})
}

// some returns up to length numbers out of few, about 0.
func some(r *rand.Rand, length, kinds int) []int {
	l := make([]int, r.Intn(length+1))
	for i := range l {
		l[i] = r.Intn(kinds) - kinds/2
	}
	return l
}

// changed returns a copy of l with so many numbers put in, left out or
// replaced.
func changed(r *rand.Rand, l []int, times, kinds int) []int {
	l = slices.Clone(l)
	for range times {
		at := r.Intn(len(l) + 1)
		switch r.Intn(3) {
		case 0:
			l = slices.Insert(l, at, r.Intn(kinds)-kinds/2)
		case 1:
			l = slices.Delete(l, at, min(at+1, len(l)))
		default:
			if at < len(l) {
				l[at] = r.Intn(kinds) - kinds/2
			}
		}
	}
	return l
}

// after returns the pairs of l behind pair k as pairs of what follows it.
func after(l []api.Pair, k int) []api.Pair {
	var rest []api.Pair
	for _, p := range l[k+1:] {
		rest = append(rest, api.Pair{I: p.I - l[k].I - 1, J: p.J - l[k].J - 1})
	}
	return rest
}

// prefix returns the number of equal numbers at the beginnings of a and b.
func prefix(a, b []int) int {
	n := 0
	for n < min(len(a), len(b)) && a[n] == b[n] {
		n++
	}
	return n
}

// fill overwrites a list and its spare capacity.
func fill[E any](l []E, with E) {
	l = l[:cap(l)]
	for i := range l {
		l[i] = with
	}
}

// check holds all calls for two lists against their least list.
func check(t *testing.T, a, b []int, want []api.Pair) {
	t.Helper()
	if got := least.Of(a, b); !slices.Equal(got, want) {
		t.Fatalf("P9.1: Of(%d, %d): %v, not %v", a, b, got, want)
	}
	if !least.Is(a, b, want) {
		t.Fatalf("P9.1: Is(%d, %d, %v): false", a, b, want)
	}
	first, ok := least.First(a, b)
	if ok != (len(want) > 0) || ok && first != want[0] || !ok && first != (api.Pair{}) {
		t.Fatalf("P9.1: First(%d, %d): %v, %v with %v", a, b, first, ok, want)
	}
}

// checkFalse holds Is against lists that are not the least one: made of it by
// one pair more, less or moved.
func checkFalse(t *testing.T, a, b []int, want []api.Pair) {
	t.Helper()
	for _, p := range []api.Pair{
		{I: -1, J: -1}, {I: 0, J: 0}, {I: len(a), J: len(b)}, {I: len(a) - 1, J: len(b) - 1},
		{I: lowest, J: lowest}, {I: highest, J: highest}, {I: lowest, J: highest}, {I: highest, J: 0}, {I: 0, J: highest},
	} {
		for k := range len(want) + 1 {
			if l := slices.Insert(slices.Clone(want), k, p); least.Is(a, b, l) {
				t.Fatalf("P9.1: Is(%d, %d, %v): true with %v", a, b, l, want)
			}
		}
		for k := range want {
			l := slices.Clone(want)
			l[k] = p
			if p != want[k] && least.Is(a, b, l) {
				t.Fatalf("P9.1: Is(%d, %d, %v): true with %v", a, b, l, want)
			}
		}
	}
	for k := range want {
		if l := slices.Delete(slices.Clone(want), k, k+1); least.Is(a, b, l) {
			t.Fatalf("P9.1: Is(%d, %d, %v): true with %v", a, b, l, want)
		}
		for _, d := range of(1, 0, 0, 1, -1, 0, 0, -1, 1, 1, -1, -1) {
			l := slices.Clone(want)
			l[k] = api.Pair{I: l[k].I + d.I, J: l[k].J + d.J}
			if least.Is(a, b, l) {
				t.Fatalf("P9.1: Is(%d, %d, %v): true with %v", a, b, l, want)
			}
		}
	}
}

// checkParts holds the list of a and b against P9.2.
func checkParts(t *testing.T, a, b []int) {
	t.Helper()
	l := least.Of(a, b)
	n := prefix(a, b)
	if len(l) < n {
		t.Fatalf("P9.2: Of(%d, %d): %v with a common prefix of %d", a, b, l, n)
	}
	for k := range n {
		if l[k] != (api.Pair{I: k, J: k}) {
			t.Fatalf("P9.2: Of(%d, %d): %v with a common prefix of %d", a, b, l, n)
		}
	}
	for k, p := range l {
		x, y, want := a[p.I+1:], b[p.J+1:], after(l, k)
		if got := least.Of(x, y); !slices.Equal(got, want) {
			t.Fatalf("P9.2: Of(%d, %d): %v, behind pair %d of %v", x, y, got, k, l)
		}
		if !least.Is(x, y, want) {
			t.Fatalf("P9.2: Is(%d, %d, %v): false, behind pair %d of %v", x, y, want, k, l)
		}
		if first, ok := least.First(x, y); ok != (len(want) > 0) || ok && first != want[0] {
			t.Fatalf("P9.2: First(%d, %d): %v, %v, behind pair %d of %v", x, y, first, ok, k, l)
		}
	}
}

// P9.1: the examples of the chapter.
func TestExamples(t *testing.T) {
	check(t, []int{1, 2}, []int{2, 1}, of(0, 1))
	check(t, []int{5, 5}, []int{5}, of(0, 0))
}

// P9.1: the edges, with the list told.
func TestEdges(t *testing.T) {
	for _, c := range []struct {
		a, b []int
		want []api.Pair
	}{
		// Nothing, and nothing alike.
		{nil, nil, nil}, {nil, []int{}, nil}, {[]int{}, nil, nil}, {[]int{}, []int{}, nil},
		{nil, []int{1}, nil}, {[]int{1}, nil, nil}, {[]int{}, []int{0, 0, 0}, nil}, {[]int{0, 0, 0}, []int{}, nil},
		{[]int{0}, []int{1}, nil}, {[]int{1, 2, 3}, []int{4, 5, 6, 7}, nil}, {[]int{1, 1, 1}, []int{2, 2}, nil},

		// The same list twice.
		{[]int{0}, []int{0}, of(0, 0)}, {[]int{1, 2, 3, 2, 1}, []int{1, 2, 3, 2, 1}, of(0, 0, 1, 1, 2, 2, 3, 3, 4, 4)},
		{[]int{7, 7, 7}, []int{7, 7, 7}, of(0, 0, 1, 1, 2, 2)},

		// One list within the other: at its beginning, its end, within, spread.
		{[]int{1, 2}, []int{1, 2, 3, 4}, of(0, 0, 1, 1)}, {[]int{3, 4}, []int{1, 2, 3, 4}, of(0, 2, 1, 3)},
		{[]int{2, 3}, []int{1, 2, 3, 4}, of(0, 1, 1, 2)}, {[]int{1, 4}, []int{1, 2, 3, 4}, of(0, 0, 1, 3)},
		{[]int{1, 2, 3, 4}, []int{3, 4}, of(2, 0, 3, 1)}, {[]int{1, 2, 3, 4}, []int{1, 4}, of(0, 0, 3, 1)},

		// Longest lists that differ in J alone, in I alone, in the last pair alone.
		{[]int{5}, []int{5, 5}, of(0, 0)}, {[]int{5}, []int{4, 5, 5, 5}, of(0, 1)}, {[]int{5, 5}, []int{5, 5, 5}, of(0, 0, 1, 1)},
		{[]int{5, 5, 5}, []int{5}, of(0, 0)}, {[]int{4, 5, 5, 5}, []int{5}, of(1, 0)}, {[]int{5, 5, 5}, []int{5, 5}, of(0, 0, 1, 1)},
		{[]int{1, 2}, []int{1, 2, 2}, of(0, 0, 1, 1)}, {[]int{1, 2, 2}, []int{1, 2}, of(0, 0, 1, 1)},
		{[]int{1, 2, 3}, []int{1, 3, 2}, of(0, 0, 1, 2)}, {[]int{1, 8, 2}, []int{1, 9, 2, 9, 2}, of(0, 0, 2, 2)},

		// The least I goes ahead of the least J.
		{[]int{2, 1}, []int{1, 2}, of(0, 1)}, {[]int{1, 2, 3}, []int{3, 2, 1}, of(0, 2)}, {[]int{2, 1}, []int{1, 1}, of(1, 0)},
		{[]int{1, 2, 3, 4}, []int{3, 4, 1, 2}, of(0, 2, 1, 3)}, {[]int{3, 4, 1, 2}, []int{1, 2, 3, 4}, of(0, 2, 1, 3)},
		{[]int{1, 2, 3, 4}, []int{2, 9, 4, 3}, of(1, 0, 2, 3)},

		// The first number that both have is not in a longest list.
		{[]int{9, 1, 2, 3}, []int{1, 2, 3, 9}, of(1, 0, 2, 1, 3, 2)}, {[]int{1, 2, 3, 9}, []int{9, 1, 2, 3}, of(0, 1, 1, 2, 2, 3)},
		{[]int{9, 1, 2}, []int{1, 9, 2}, of(0, 1, 2, 2)}, {[]int{1, 2, 1, 3, 1}, []int{3, 1, 2, 1}, of(0, 1, 1, 2, 2, 3)},

		// A common suffix is not paired where an earlier number will do.
		{[]int{5}, []int{6, 5, 5}, of(0, 1)}, {[]int{1, 2, 2}, []int{3, 2, 4, 2, 2}, of(1, 1, 2, 3)}, {[]int{4, 4, 7}, []int{4, 7, 7}, of(0, 0, 2, 1)},

		// Numbers of any size.
		{[]int{-1}, []int{1}, nil}, {[]int{-1, -2, -3}, []int{-3, -1, -2}, of(0, 1, 1, 2)}, {[]int{-5, 0, 5}, []int{-5, 5}, of(0, 0, 2, 1)},
		{[]int{lowest}, []int{highest}, nil}, {[]int{lowest, highest}, []int{lowest, highest}, of(0, 0, 1, 1)},
		{[]int{lowest, highest}, []int{highest, lowest}, of(0, 1)}, {[]int{highest, lowest}, []int{lowest, highest}, of(0, 1)},
		{[]int{lowest, 0, highest}, []int{highest, 0, highest, lowest}, of(1, 1, 2, 2)}, {[]int{0, lowest}, []int{lowest}, of(1, 0)},
		{[]int{1}, []int{1 + 1<<32}, nil}, {[]int{1 << 31}, []int{-1 << 31}, nil}, {[]int{lowest}, []int{0}, nil}, {[]int{256}, []int{0}, nil},
	} {
		check(t, c.a, c.b, c.want)
		checkFalse(t, c.a, c.b, c.want)
		checkParts(t, c.a, c.b)
		if got := words(valid(c.a, c.b, nil)); !slices.Equal(got, c.want) {
			t.Errorf("the list told for %d and %d is not the least: %v", c.a, c.b, got)
		}
	}
}

// P9.1: lists that Is tells from the least one, each for a reason of its own.
func TestIs(t *testing.T) {
	a, b := []int{1, 2, 3, 2, 4}, []int{2, 1, 2, 2, 4, 4}
	for _, c := range []struct {
		l    []api.Pair
		want bool
	}{
		{of(0, 1, 1, 2, 3, 3, 4, 4), true},

		// As long and valid, but not least.
		{of(0, 1, 1, 2, 3, 3, 4, 5), false}, {of(1, 0, 3, 2, 4, 4), false},

		// Shorter, longer, none.
		{of(0, 1, 1, 2, 3, 3), false}, {of(1, 2, 3, 3, 4, 4), false}, {of(0, 1, 1, 2, 3, 3, 4, 4, 4, 5), false}, {of(0, 1, 1, 2, 3, 3, 4, 4, 5, 6), false},
		{nil, false}, {[]api.Pair{}, false},

		// Not valid: unlike numbers, not ascending, no indices.
		{of(0, 0, 1, 2, 3, 3, 4, 4), false}, {of(0, 1, 1, 2, 2, 3, 4, 4), false}, {of(1, 2, 0, 1, 3, 3, 4, 4), false}, {of(0, 1, 0, 1, 3, 3, 4, 4), false},
		{of(-1, 1, 1, 2, 3, 3, 4, 4), false}, {of(0, 1, 1, 2, 3, 3, 4, 6), false}, {of(0, 1, 1, 2, 3, 3, 5, 4), false}, {of(lowest, lowest, 1, 2, 3, 3, highest, highest), false},
	} {
		if got := least.Is(a, b, c.l); got != c.want {
			t.Errorf("P9.1: Is(%d, %d, %v): %v", a, b, c.l, got)
		}
	}
	for _, none := range [][]api.Pair{nil, {}} {
		for _, x := range [][]int{nil, {}, {8}, {8, 9, 8}} {
			if !least.Is(x, b, none) || !least.Is(a, x, none) || !least.Is(nil, x, none) || !least.Is(x, []int{}, none) {
				t.Errorf("P9.1: Is with %d and no pairs: false", x)
			}
			for _, l := range [][]api.Pair{of(0, 0), of(-1, -1), of(lowest, highest), of(0, 0, 1, 1)} {
				if least.Is(x, b, l) || least.Is(a, x, l) || least.Is(nil, x, l) {
					t.Errorf("P9.1: Is with %d and %v: true", x, l)
				}
			}
		}
	}
}

// P9.1 and P9.2: every two short lists against all their valid lists.
func TestAllShortLists(t *testing.T) {
	use := func(a, b []int) {
		all := valid(a, b, nil)
		want := words(all)
		check(t, a, b, want)
		for _, l := range all {
			if got := least.Is(a, b, l); got != slices.Equal(l, want) {
				t.Fatalf("P9.1: Is(%d, %d, %v): %v with %v", a, b, l, got, want)
			}
		}
		checkFalse(t, a, b, want)
		checkParts(t, a, b)
		if got := chained(a, b); !slices.Equal(got, want) {
			t.Fatalf("the test's own list of %d and %d: %v, not %v", a, b, got, want)
		}
	}
	two([]int{1, 2}, 4, use)
	two([]int{-1, 0, 3}, 3, use)
	r := rand.New(rand.NewSource(91))
	for range 400 {
		kinds := 2 + r.Intn(5)
		use(some(r, 7, kinds), some(r, 7, kinds))
	}
}

// P9.1: every two lists that are a little longer, of two kinds.
func TestAllListsOfTwoKinds(t *testing.T) {
	two([]int{0, 1}, 7, func(a, b []int) {
		if got, want := least.Of(a, b), chained(a, b); !slices.Equal(got, want) {
			t.Fatalf("P9.1: Of(%d, %d): %v, not %v", a, b, got, want)
		}
	})
}

// P9.1: longer lists, of few numbers and of many.
func TestManyLists(t *testing.T) {
	r := rand.New(rand.NewSource(92))
	for round := range 800 {
		kinds := 1 + r.Intn(1+round%60)
		a, b := some(r, 120, kinds), some(r, 120, kinds)
		want := chained(a, b)
		if !good(a, b, want) {
			t.Fatalf("the test's own list of %d and %d: %v", a, b, want)
		}
		check(t, a, b, want)
	}
}

// P9.1: lists that are much alike, or of which one is much shorter.
func TestAlikeLists(t *testing.T) {
	r := rand.New(rand.NewSource(93))
	for round := range 1500 {
		kinds := 1 + r.Intn(1+round%30)
		a := some(r, 100, kinds)
		b := changed(r, a, r.Intn(1+round%16), kinds)
		check(t, a, b, chained(a, b))
		if round%3 == 0 {
			short := changed(r, b[:len(b)/4], 2, kinds)
			check(t, a, short, chained(a, short))
			check(t, short, a, chained(short, a))
		}
	}
}

// P9.2: the common prefix, and what follows each pair.
func TestPrefixAndRest(t *testing.T) {
	r := rand.New(rand.NewSource(94))
	for round := range 150 {
		kinds := 1 + r.Intn(8)
		begin := some(r, 12, kinds)
		a := slices.Concat(begin, some(r, 25, kinds))
		b := slices.Concat(begin, some(r, 25, kinds))
		checkParts(t, a, b)
		if round%2 == 0 {
			checkParts(t, begin, b)
			checkParts(t, a, begin)
			checkParts(t, a, changed(r, a, 4, kinds))
		}
		if l := least.Of(a, b); len(begin) > 0 && !slices.Equal(l[:len(begin)], least.Of(begin, begin)) {
			t.Fatalf("P9.2: Of(%d, %d): %v with the common prefix %d", a, b, l, begin)
		}
	}
}

// P9.1: long lists whose least list is known.
func TestLongLists(t *testing.T) {
	const n = 2000
	rising, equal, odd, other := make([]int, n), make([]int, n), make([]int, n/2), make([]int, n)
	for i := range n {
		rising[i], other[i] = i, -1-i
	}
	for i := range odd {
		odd[i] = 2*i + 1
	}
	falling := slices.Clone(rising)
	slices.Reverse(falling)
	diagonal := func(length, i, j, stepI, stepJ int) []api.Pair {
		l := make([]api.Pair, length)
		for k := range l {
			l[k] = api.Pair{I: i + k*stepI, J: j + k*stepJ}
		}
		return l
	}
	for name, c := range map[string]struct {
		a, b []int
		want []api.Pair
	}{
		"the same":        {rising, rising, diagonal(n, 0, 0, 1, 1)},
		"equal numbers":   {equal, equal[:n/3], diagonal(n/3, 0, 0, 1, 1)},
		"exchanged":       {equal[:n/3], equal, diagonal(n/3, 0, 0, 1, 1)},
		"turned round":    {rising, falling, of(0, n-1)},
		"every other one": {rising, odd, diagonal(n/2, 1, 0, 2, 1)},
		"into every one":  {odd, rising, diagonal(n/2, 0, 1, 1, 2)},
		"nothing alike":   {rising, other, nil},
		"shifted":         {rising[1:], rising[:n-1], diagonal(n-2, 0, 1, 1, 1)},
		"halves":          {slices.Concat(rising[n/2:], rising[:n/2]), rising, diagonal(n/2, 0, n/2, 1, 1)},
	} {
		if got := least.Of(c.a, c.b); !slices.Equal(got, c.want) {
			t.Errorf("P9.1: Of, %s: %d pairs, not the %d", name, len(got), len(c.want))
		}
		if !least.Is(c.a, c.b, c.want) {
			t.Errorf("P9.1: Is, %s: false", name)
		}
	}
}

// P9.1 at the limit: lists that are much alike, and a long one beside a short
// one and beside none.
func TestLimit(t *testing.T) {
	long := make([]int, limit)
	for i := range long {
		long[i] = i % 7
	}
	check := func(name string, a, b []int, want []api.Pair) {
		t.Helper()
		if got := least.Of(a, b); !slices.Equal(got, want) {
			t.Fatalf("P9.1: Of, %s: %d pairs, not the %d", name, len(got), len(want))
		}
		if !least.Is(a, b, want) || len(want) > 0 && least.Is(a, b, want[1:]) {
			t.Errorf("P9.1: Is, %s", name)
		}
		if first, ok := least.First(a, b); ok != (len(want) > 0) || ok && first != want[0] {
			t.Errorf("P9.1: First, %s: %v, %v", name, first, ok)
		}
	}
	whole := make([]api.Pair, limit)
	for i := range whole {
		whole[i] = api.Pair{I: i, J: i}
	}
	check("the same list", long, slices.Clone(long), whole)
	check("nothing", long, nil, nil)
	check("nothing first", nil, long, nil)

	// Both ends of both lists and a number in the middle are unlike.
	a, b := slices.Clone(long), slices.Clone(long)
	a[0], a[limit/2], a[limit-1] = -1, -2, -3
	b[0], b[limit/2], b[limit-1] = 8, 9, 10
	check("three numbers unlike", a, b, slices.Concat(whole[1:limit/2], whole[limit/2+1:limit-1]))

	a = slices.Clone(long)
	a[limit-1] = 9
	check("a short list", a, []int{6, 0, 8, 9}, of(6, 0, 7, 1, limit-1, 3))
	check("a short list first", []int{6, 0, 8, 9}, a, of(0, 6, 1, 7, 3, limit-1))
	check("one number", a, []int{9}, of(limit-1, 0))
	check("one number first", []int{9}, a, of(0, limit-1))
	check("a number that it has not", a, []int{8}, nil)
}

// R1: no lists and no pairs make a call panic, also above the limit.
func TestNoPanic(t *testing.T) {
	numbers := []int{lowest, -1, 0, 1, 2, 3, limit, 1 << 32, highest}
	var all []api.Pair
	for _, i := range numbers {
		for _, j := range numbers {
			all = append(all, api.Pair{I: i, J: j})
		}
	}
	for _, a := range [][]int{nil, {4}, {4, 4, 4}} {
		for _, b := range [][]int{nil, {4, 4}, {5, 4}} {
			for _, p := range all {
				least.Is(a, b, []api.Pair{p})
				for _, q := range all {
					least.Is(a, b, []api.Pair{p, q})
				}
			}
			least.Is(a, b, all)
		}
	}
	two([]int{lowest, 0, highest}, 3, func(a, b []int) {
		least.Of(a, b)
		least.First(a, b)
		least.Is(a, b, all)
	})
	long, pairs := make([]int, limit+1), make([]api.Pair, limit+1)
	for k := range pairs {
		pairs[k] = api.Pair{I: k, J: k}
	}
	for _, b := range [][]int{nil, {0}, {1, 0}, long} {
		least.Of(long, b)
		least.Of(b, long)
		least.First(long, b)
		least.First(b, long)
		least.Is(long, b, pairs)
		least.Is(b, long, pairs)
	}
}

// R4: no call modifies an argument or its spare capacity, which is no part of
// a list, and no change of a result changes one.
func TestArgumentsStay(t *testing.T) {
	a, b := []int{1, 2, 1, 3, 1, 2, 2}, []int{2, 1, 1, 3, 1, 2}
	l := least.Of(a, b)
	keptA, keptB, keptL := slices.Clone(a), slices.Clone(b), slices.Clone(l)
	for n := range len(a) + 1 {
		for m := range len(b) + 1 {
			want := chained(slices.Clone(keptA[:n]), slices.Clone(keptB[:m]))
			check(t, a[:n], b[:m], want)
			check(t, a[n:], a[n:], chained(keptA[n:], keptA[n:]))
			fill(least.Of(a[:n], b[:m]), api.Pair{I: -7, J: -7})
			for k := range len(l) + 1 {
				if got := least.Is(a[:n], b[:m], l[:k]); got != slices.Equal(keptL[:k], want) {
					t.Fatalf("P9.1: Is(%d, %d, %v): %v", a[:n], b[:m], l[:k], got)
				}
			}
			if !slices.Equal(a, keptA) || !slices.Equal(b, keptB) || !slices.Equal(l, keptL) {
				t.Fatalf("R4: a list was modified: %d, %d, %v", a, b, l)
			}
		}
	}
}

// R4 and R5: results are new memory each time: whoever changes one, or an
// argument, changes no other result.
func TestResultsAreNew(t *testing.T) {
	for _, c := range [][2][]int{{{1}, {1}}, {{1, 2}, {2, 1}}, {{1, 2, 3, 2}, {1, 2, 4, 3, 2}}, {{5, 5, 5, 5, 5}, {5, 5, 5}}, {{6, 1, 2, 3}, {7, 1, 2, 3}}} {
		a, b := slices.Clone(c[0]), slices.Clone(c[1])
		want := chained(a, b)
		first, second := least.Of(a, b), least.Of(a, b)
		fill(first, api.Pair{I: -7, J: -7})
		third := least.Of(a, b)
		if !slices.Equal(second, want) || !slices.Equal(third, want) {
			t.Errorf("R4: Of(%d, %d): the result shares memory", a, b)
		}
		if !least.Is(a, b, third) || least.Is(a, b, first) {
			t.Errorf("R5: Is(%d, %d) after a result was changed", a, b)
		}
		fill(a, -8)
		fill(b, -9)
		if !slices.Equal(second, want) || !slices.Equal(third, want) {
			t.Errorf("R4: Of(%d, %d): the result changes with the lists", c[0], c[1])
		}
		if got := least.Of(a, b); len(got) != 0 {
			t.Errorf("R5: Of(%d, %d): %v", a, b, got)
		}
		check(t, c[0], c[1], want)
	}
}

// R5: answers hang on the arguments alone: the lists may be one piece of
// memory or several, and what was asked before does not matter.
func TestAnswersStay(t *testing.T) {
	whole := []int{1, 1, 2, 1, 1, 2, 3}
	for range 4 {
		check(t, whole[:3], whole[3:], of(0, 0, 1, 1, 2, 2))
		check(t, whole[2:], whole, of(0, 2, 1, 3, 2, 4, 3, 5, 4, 6))
		check(t, whole, whole[2:], of(2, 0, 3, 1, 4, 2, 5, 3, 6, 4))
		check(t, whole[:2], whole[5:], nil)
		check(t, whole[1:4], whole[2:5], of(0, 1, 2, 2))
	}
}
