package occur_test

import (
	"math"
	"math/rand"
	"slices"
	"testing"

	"tatting/api"
	"tatting/occur"
)

const (
	least = math.MinInt
	most  = math.MaxInt
	limit = api.MaxTokens
)

// lists calls use with every list of up to length numbers from low to high.
func lists(low, high, length int, use func([]int)) {
	last := [][]int{nil}
	use(nil)
	for range length {
		var next [][]int
		for _, l := range last {
			for k := low; k <= high; k++ {
				next = append(next, append(slices.Clone(l), k))
			}
		}
		for _, l := range next {
			use(l)
		}
		last = next
	}
}

// same tells whether two lists of lists are equal; a nil list and an empty
// list are equivalent.
func same(o, want [][]int) bool {
	return slices.EqualFunc(o, want, slices.Equal[[]int])
}

// clone copies a list of lists with all that it holds.
func clone(o [][]int) [][]int {
	c := slices.Clone(o)
	for k, l := range c {
		c[k] = slices.Clone(l)
	}
	return c
}

// fill overwrites a list and its spare capacity.
func fill(l []int, with int) {
	l = l[:cap(l)]
	for i := range l {
		l[i] = with
	}
}

// P4.1
func TestOf(t *testing.T) {
	for _, c := range []struct {
		n    int
		b    []int
		want [][]int
	}{
		{0, nil, nil},
		{0, []int{}, nil},
		{1, nil, [][]int{nil}},
		{4, []int{}, [][]int{nil, nil, nil, nil}},
		{3, []int{2, 0, 2}, [][]int{{1}, nil, {0, 2}}},

		// A number that occurs at every index, the only one there is, the
		// first one, the last one.
		{1, []int{0}, [][]int{{0}}},
		{1, []int{0, 0, 0, 0, 0}, [][]int{{0, 1, 2, 3, 4}}},
		{3, []int{0, 0, 0}, [][]int{{0, 1, 2}, nil, nil}},
		{3, []int{2, 2, 2}, [][]int{nil, nil, {0, 1, 2}}},

		// Each number once, in order and against it.
		{3, []int{0, 1, 2}, [][]int{{0}, {1}, {2}}},
		{3, []int{2, 1, 0}, [][]int{{2}, {1}, {0}}},

		{5, []int{1, 3, 1, 1, 3, 3}, [][]int{nil, {0, 2, 3}, nil, {1, 4, 5}, nil}},
	} {
		if got, e := occur.Of(c.n, c.b); e != api.OK || !same(got, c.want) {
			t.Errorf("P4.1: Of(%d, %d): %d, %d", c.n, c.b, got, e)
		}
	}
}

// P4.1 and R2: wrong arguments, and nothing beside the error.
func TestOfWrongArguments(t *testing.T) {
	for _, c := range []struct {
		n int
		b []int
	}{
		{-1, nil}, {-1, []int{}}, {-1, []int{0}}, {-1, []int{-1}}, {-1, []int{-2}}, {least, nil}, {least, []int{least}},
		{limit + 1, nil}, {limit + 1, []int{0}}, {limit + 1, []int{limit}}, {limit + 1, []int{limit + 1}},
		{1 << 32, nil}, {1<<32 + 3, []int{2}}, {most, nil}, {most, []int{1}},

		{0, []int{0}}, {0, []int{-1}}, {0, []int{1}}, {1, []int{1}}, {1, []int{0, 1}}, {1, []int{0, 0, -1}},
		{limit, []int{limit}}, {limit, []int{0, limit - 1, limit, 1}},
	} {
		if got, e := occur.Of(c.n, c.b); e != api.EARG || len(got) != 0 {
			t.Errorf("P4.1: Of(%d, %d): %d lists, %d", c.n, c.b, len(got), e)
		}
	}
	// One wrong number is enough, wherever it stands.
	for _, bad := range []int{-1, -3, 3, 4, least, most, 1 << 32, 1<<32 + 1, -1 << 32} {
		for at := range 4 {
			b := slices.Insert([]int{2, 0, 1}, at, bad)
			if got, e := occur.Of(3, b); e != api.EARG || len(got) != 0 {
				t.Errorf("P4.1: Of(3, %d): %d, %d", b, got, e)
			}
		}
	}
}

// P4.1: every short list, with each n that has too few numbers for it, just
// as many as it needs, or more.
func TestOfShortLists(t *testing.T) {
	lists(-1, 3, 5, func(b []int) {
		for n := -1; n <= 5; n++ {
			wrong := n < 0
			want := make([][]int, max(n, 0))
			for i, k := range b {
				if k < 0 || k >= n {
					wrong = true
					break
				}
				want[k] = append(want[k], i)
			}
			got, e := occur.Of(n, b)
			if wrong && (e != api.EARG || len(got) != 0) {
				t.Fatalf("P4.1: Of(%d, %d): %d, %d", n, b, got, e)
			}
			if !wrong && (e != api.OK || !same(got, want)) {
				t.Fatalf("P4.1: Of(%d, %d): %d, %d", n, b, got, e)
			}
		}
	})
}

// P4.1 at the limit: as many numbers as there can be, none of them occurring,
// one of them everywhere, and each of them once.
func TestOfManyNumbers(t *testing.T) {
	o, e := occur.Of(limit, nil)
	if e != api.OK || len(o) != limit || occur.Most(o) != 0 {
		t.Errorf("P4.1: Of(MaxTokens, none): %d lists, %d", len(o), e)
	}
	b := make([]int, limit)
	fill(b, limit-1)
	o, e = occur.Of(limit, b)
	if e != api.OK || len(o) != limit || len(o[0]) != 0 || len(o[limit-1]) != limit || occur.Most(o) != limit {
		t.Fatalf("P4.1: Of one number at the limit: %d lists, %d", len(o), e)
	}
	for i, k := range o[limit-1] {
		if i != k {
			t.Fatalf("P4.1: Of one number at the limit: index %d is %d", i, k)
		}
	}
	// Every pair of indices is a hit then, more than 32 bits can count.
	if h := occur.Hits(o, b); h != limit*limit {
		t.Errorf("P4.2: Hits at the limit: %d", h)
	}
	if i, ok := occur.Next(o, limit-1, limit-1); i != limit-1 || !ok {
		t.Errorf("P4.1: Next at the limit: %d, %v", i, ok)
	}
	if i, ok := occur.Next(o, limit-1, limit); i != 0 || ok {
		t.Errorf("P4.1: Next behind the limit: %d, %v", i, ok)
	}
	for i := range b {
		b[i] = limit - 1 - i
	}
	o, e = occur.Of(limit, b)
	if e != api.OK || len(o) != limit || occur.Most(o) != 1 || occur.Hits(o, b) != limit {
		t.Fatalf("P4.1: Of all numbers at the limit: %d lists, %d", len(o), e)
	}
	for k, l := range o {
		if !slices.Equal(l, []int{limit - 1 - k}) {
			t.Fatalf("P4.1: Of all numbers at the limit: %d occurs at %d", k, l)
		}
	}
}

// P4.1: from before, at, between and behind the indices, and a sym that is no
// index of o.
func TestNext(t *testing.T) {
	o := [][]int{{1, 4, 9}, nil, {0}, {}, {least, -5, 0, most}}
	for _, c := range []struct {
		sym, from, want int
		ok              bool
	}{
		{0, least, 1, true}, {0, -1, 1, true}, {0, 0, 1, true}, {0, 1, 1, true},
		{0, 2, 4, true}, {0, 3, 4, true}, {0, 4, 4, true},
		{0, 5, 9, true}, {0, 8, 9, true}, {0, 9, 9, true},
		{0, 10, 0, false}, {0, 1 << 32, 0, false}, {0, most, 0, false},

		// An index 0 that is found is not the same as none.
		{2, least, 0, true}, {2, 0, 0, true}, {2, 1, 0, false},

		{1, least, 0, false}, {1, 0, 0, false}, {1, most, 0, false},
		{3, least, 0, false}, {3, 0, 0, false},

		{4, least, least, true}, {4, least + 1, -5, true}, {4, -5, -5, true}, {4, -4, 0, true}, {4, 1, most, true}, {4, most, most, true},

		{-1, 0, 0, false}, {5, 0, 0, false}, {6, 0, 0, false}, {least, 0, 0, false}, {most, 0, 0, false}, {1 << 32, 0, 0, false}, {1<<32 + 2, 0, 0, false},
	} {
		if got, ok := occur.Next(o, c.sym, c.from); got != c.want || ok != c.ok {
			t.Errorf("P4.1: Next(%d, %d): %d, %v", c.sym, c.from, got, ok)
		}
	}
	for _, o := range [][][]int{nil, {}} {
		for _, sym := range []int{-1, 0, 1, least, most} {
			if got, ok := occur.Next(o, sym, 0); got != 0 || ok {
				t.Errorf("P4.1: Next(none, %d, 0): %d, %v", sym, got, ok)
			}
		}
	}
}

// P4.1: every ascending list of indices below 9, from every place in and
// about it.
func TestNextOfShortLists(t *testing.T) {
	for set := range 1 << 9 {
		var l []int
		for i := range 9 {
			if set>>i&1 == 1 {
				l = append(l, i)
			}
		}
		o := [][]int{{0, 5}, l, {3}}
		for from := -2; from <= 11; from++ {
			want, found := 0, false
			for _, i := range l {
				if i >= from {
					want, found = i, true
					break
				}
			}
			if got, ok := occur.Next(o, 1, from); got != want || ok != found {
				t.Fatalf("P4.1: Next(%d, 1, %d): %d, %v", o, from, got, ok)
			}
		}
	}
}

// P4.1
func TestHits(t *testing.T) {
	o := [][]int{{1, 4, 9}, nil, {0}, {2, 3}}
	for _, c := range []struct {
		a    []int
		want int64
	}{
		{nil, 0}, {[]int{}, 0}, {[]int{0}, 3}, {[]int{1}, 0}, {[]int{2}, 1}, {[]int{3}, 2},
		{[]int{0, 1, 2, 3}, 6}, {[]int{3, 2, 1, 0}, 6}, {[]int{0, 0, 2, 0}, 10}, {[]int{1, 1}, 0},

		// Numbers that are no index of o count as 0, and hide no others.
		{[]int{-1}, 0}, {[]int{4}, 0}, {[]int{least, most, 1 << 32, 1<<32 + 2, -1 << 32}, 0},
		{[]int{-1, 0, 4, 2}, 4}, {[]int{0, least, 2, most}, 4},
	} {
		if got := occur.Hits(o, c.a); got != c.want {
			t.Errorf("P4.1: Hits(%d, %d): %d", o, c.a, got)
		}
	}
	for _, o := range [][][]int{nil, {}, {nil}, {nil, {}}} {
		if got := occur.Hits(o, []int{0, 1, 0, -1}); got != 0 {
			t.Errorf("P4.1: Hits(%d, 0 1 0 -1): %d", o, got)
		}
	}
}

// P4.1
func TestMost(t *testing.T) {
	for _, c := range []struct {
		o    [][]int
		want int
	}{
		{nil, 0}, {[][]int{}, 0}, {[][]int{nil}, 0}, {[][]int{nil, {}, nil}, 0},
		{[][]int{{7}}, 1}, {[][]int{nil, {5}}, 1}, {[][]int{{5}, nil}, 1},
		{[][]int{{1, 4, 9}, {2}, {0, 3}}, 3}, {[][]int{{2}, {1, 4, 9}, {0, 3}}, 3}, {[][]int{{2}, {0, 3}, {1, 4, 9}}, 3},
		{[][]int{{0, 1}, {2, 3}}, 2},

		// Spare capacity is no part of a list.
		{[][]int{make([]int, 1, 50), make([]int, 2)}, 2},
	} {
		if got := occur.Most(c.o); got != c.want {
			t.Errorf("P4.1: Most(%d): %d", c.o, got)
		}
	}
}

// checkHits holds Hits against the words of P4.2, for a list b of numbers
// from 0 to n-1 and any list a.
func checkHits(t *testing.T, n int, a, b []int) {
	t.Helper()
	o, e := occur.Of(n, b)
	if e != api.OK {
		t.Fatalf("P4.1: Of(%d, %d): %d", n, b, e)
	}
	var want int64
	for _, x := range a {
		for _, y := range b {
			if x == y {
				want++
			}
		}
	}
	if got := occur.Hits(o, a); got != want {
		t.Fatalf("P4.2: Hits(Of(%d, %d), %d): %d, not %d", n, b, a, got, want)
	}
}

// P4.2: every two short lists; the first one has numbers that cannot occur in
// the second one.
func TestHitsOfShortLists(t *testing.T) {
	lists(0, 2, 4, func(b []int) {
		lists(-1, 4, 3, func(a []int) {
			checkHits(t, 3, a, b)
			checkHits(t, 4, a, b)
		})
	})
}

// P4.1 and P4.2: longer lists, and every next index in them.
func TestManyLists(t *testing.T) {
	r := rand.New(rand.NewSource(4))
	for range 300 {
		n := 1 + r.Intn(12)
		b := make([]int, r.Intn(80))
		for i := range b {
			b[i] = r.Intn(n)
		}
		a := make([]int, r.Intn(80))
		for i := range a {
			a[i] = r.Intn(n+4) - 2
		}
		checkHits(t, n, a, b)
		o, _ := occur.Of(n, b)
		sum, longest := 0, 0
		for _, l := range o {
			sum, longest = sum+len(l), max(longest, len(l))
		}
		if sum != len(b) || occur.Most(o) != longest {
			t.Fatalf("P4.1: Of(%d, %d): %d indices, %d", n, b, sum, occur.Most(o))
		}
		for range 40 {
			sym, from := r.Intn(n), r.Intn(len(b)+1)
			want := slices.Index(b[from:], sym)
			got, ok := occur.Next(o, sym, from)
			if ok != (want >= 0) || ok && got != from+want || !ok && got != 0 {
				t.Fatalf("P4.1: Next(Of(%d, %d), %d, %d): %d, %v", n, b, sym, from, got, ok)
			}
		}
	}
}

// R1: above the limit, and in lists that do not ascend, a call still ends
// without a panic.
func TestNoPanic(t *testing.T) {
	long := make([]int, limit+1)
	occur.Of(0, long)
	occur.Of(1, long)
	occur.Of(limit, long)
	occur.Of(limit+1, long)
	occur.Hits([][]int{long, nil}, long)
	occur.Hits(make([][]int, limit+1), long)
	occur.Most(make([][]int, limit+1))
	occur.Most([][]int{long})
	for _, l := range [][]int{{9, 4, 1}, {3, 3, 3}, {5, -1, 7, 0}, {most, least}, long} {
		for _, from := range []int{least, -1, 0, 1, 3, 4, 9, 10, most} {
			occur.Next([][]int{l}, 0, from)
		}
	}
}

// R4: no call modifies an argument or its spare capacity.
func TestArgumentsStay(t *testing.T) {
	b := []int{2, 0, 2, 1, 0, 77, 78}
	o := [][]int{{1, 4, 9, 50}, nil, {0, 60}, {70}, {80, 90}}
	o[0], o[2] = o[0][:3], o[2][:1]
	keptB, keptO := slices.Clone(b), clone(o)
	for k := range 6 {
		occur.Of(3, b[:k])
		occur.Of(2, b[:k])
		occur.Of(limit+1, b[:k])
		occur.Hits(o[:3], b[:k])
		occur.Next(o[:3], k, k)
		occur.Next(o[:3], 0, 2*k)
		occur.Most(o[:min(k, 3)])
	}
	if !slices.Equal(b, keptB) || !same(o, keptO) || o[0][:4][3] != 50 || o[2][:2][1] != 60 {
		t.Errorf("R4: a list was modified: %d, %d", b, o)
	}
}

// R4: the lists of a result share memory neither with the argument nor with
// each other, and neither does their spare capacity.
func TestListsAreNew(t *testing.T) {
	for _, first := range [][]int{
		{2, 0, 2, 1, 0, 0, 0},
		{0, 1, 2},
		{0, 0, 0, 1, 1, 1, 2, 2, 2},
		{1, 1, 1, 1, 1},
		{2},
	} {
		b := append(make([]int, 0, 32), first...)
		kept, _ := occur.Of(3, first)
		for k := range 3 {
			o, e := occur.Of(3, b)
			if e != api.OK {
				t.Fatalf("P4.1: Of(3, %d): %d", b, e)
			}
			fill(o[k], -7)
			o[k] = kept[k]
			if !same(o, kept) || !slices.Equal(b, first) {
				t.Errorf("R4: Of(3, %d): list %d shares memory: %d, %d", first, k, o, b)
			}
		}
		o, _ := occur.Of(3, b)
		for _, l := range o[len(o):cap(o)] {
			fill(l, -7)
		}
		fill(b, -8)
		if !same(o, kept) {
			t.Errorf("R4: Of(3, %d): the lists change with the argument: %d", first, o)
		}
	}
}

// R4 and R5: two calls share nothing.
func TestCallsShareNothing(t *testing.T) {
	b := []int{2, 0, 2, 1}
	first, _ := occur.Of(4, b)
	second, _ := occur.Of(4, b)
	kept := clone(second)
	for k := range first {
		fill(first[k], -7)
		first[k] = []int{-7}
	}
	if !same(second, kept) {
		t.Errorf("R4: two results share memory: %d", second)
	}
}
