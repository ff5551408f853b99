package pairs_test

import (
	"math"
	"math/big"
	"math/rand"
	"slices"
	"testing"

	"tatting/api"
	"tatting/pairs"
)

const (
	least = math.MinInt
	most  = math.MaxInt
	limit = api.MaxTokens
)

// of makes a list of pairs of numbers, two and two.
func of(n ...int) []api.Pair {
	var l []api.Pair
	for k := 0; k+1 < len(n); k += 2 {
		l = append(l, api.Pair{I: n[k], J: n[k+1]})
	}
	return l
}

// good follows the words of P7.1: every pair by itself, then every two
// neighbours.
func good(a, b []int, l []api.Pair) bool {
	for _, p := range l {
		if p.I < 0 || p.I >= len(a) || p.J < 0 || p.J >= len(b) {
			return false
		}
		if a[p.I] != b[p.J] {
			return false
		}
	}
	for k := 1; k < len(l); k++ {
		if l[k].I <= l[k-1].I || l[k].J <= l[k-1].J {
			return false
		}
	}
	return true
}

// less follows the words of P7.1: it lays out both sequences of numbers.
func less(x, y []api.Pair) bool {
	var p, q []int
	for _, e := range x {
		p = append(p, e.I, e.J)
	}
	for _, e := range y {
		q = append(q, e.I, e.J)
	}
	return slices.Compare(p, q) < 0
}

// values follows the words of P7.1 by looking for each I among the indices.
func values(a []int, l []api.Pair) []int {
	var v []int
	for _, p := range l {
		for i, k := range a {
			if i == p.I {
				v = append(v, k)
			}
		}
	}
	return v
}

// sum adds modulo 2^64 with numbers that do not go round.
func sum(x, y int) int {
	z := new(big.Int).Add(big.NewInt(int64(x)), big.NewInt(int64(y)))
	round := new(big.Int).Lsh(big.NewInt(1), 64)
	z.Mod(z, round)
	return int(z.Uint64())
}

// lists calls use with every list of up to length of the given elements.
func lists[E any](elements []E, length int, use func([]E)) {
	last := [][]E{nil}
	use(nil)
	for range length {
		var next [][]E
		for _, l := range last {
			for _, e := range elements {
				next = append(next, append(slices.Clone(l), e))
			}
		}
		for _, l := range next {
			use(l)
		}
		last = next
	}
}

// square has all pairs of two of the numbers.
func square(n ...int) []api.Pair {
	var l []api.Pair
	for _, i := range n {
		for _, j := range n {
			l = append(l, api.Pair{I: i, J: j})
		}
	}
	return l
}

// some returns up to length-1 numbers out of few, about 0.
func some(r *rand.Rand, length, kinds int) []int {
	l := make([]int, r.Intn(length))
	for i := range l {
		l[i] = r.Intn(kinds) - kinds/2
	}
	return l
}

// aligned returns a valid list of a and b, not always a longest one.
func aligned(r *rand.Rand, a, b []int) []api.Pair {
	var l []api.Pair
	j := 0
	for i := range a {
		if r.Intn(3) == 0 {
			continue
		}
		for k := j; k < len(b) && k < j+4; k++ {
			if a[i] == b[k] {
				l = append(l, api.Pair{I: i, J: k})
				j = k + 1
				break
			}
		}
	}
	return l
}

// fill overwrites a list and its spare capacity.
func fill[E any](l []E, with E) {
	l = l[:cap(l)]
	for i := range l {
		l[i] = with
	}
}

// P7.1: the examples of the chapter.
func TestExamples(t *testing.T) {
	if !pairs.Good([]int{1, 2}, []int{2, 1}, of(0, 1)) {
		t.Errorf("P7.1: Good(1 2, 2 1, (0, 1)): false")
	}
	if !pairs.Less(nil, of(0, 0)) || !pairs.Less([]api.Pair{}, of(0, 0)) {
		t.Errorf("P7.1: Less of the empty list and (0, 0): false")
	}
}

// P7.1
func TestGood(t *testing.T) {
	a, b := []int{1, 2, 1, 3}, []int{2, 1, 1, 3, 1}
	for _, c := range []struct {
		l    []api.Pair
		want bool
	}{
		{nil, true}, {[]api.Pair{}, true},
		{of(0, 1), true}, {of(0, 4), true}, {of(1, 0), true}, {of(3, 3), true},
		{of(0, 1, 2, 2, 3, 3), true}, {of(1, 0, 2, 1), true}, {of(1, 0, 2, 4), true}, {of(0, 1, 2, 4), true},

		// Numbers that are not equal, in each place of a list.
		{of(0, 0), false}, {of(1, 1), false}, {of(3, 4), false},
		{of(0, 0, 2, 1, 3, 3), false}, {of(0, 1, 1, 2, 3, 3), false}, {of(0, 1, 2, 2, 3, 4), false},

		// An index that no list has, in each place of a list.
		{of(-1, 1), false}, {of(0, -1), false}, {of(-1, -1), false}, {of(4, 3), false}, {of(3, 5), false}, {of(4, 5), false},
		{of(-1, 1, 2, 2), false}, {of(0, -1, 2, 2), false}, {of(0, 1, 4, 2), false}, {of(0, 1, 2, 5), false},
		{of(0, 1, -1, 2), false}, {of(0, 1, 2, -1), false}, {of(0, 1, 2, 2, 3, 3, 4, 4), false},
		{of(least, 1), false}, {of(0, least), false}, {of(most, 1), false}, {of(0, most), false},
		{of(least, least), false}, {of(most, most), false}, {of(least, most), false}, {of(most, least), false},
		{of(0, 1, least, 2), false}, {of(0, 1, 2, least), false}, {of(0, 1, most, 2), false}, {of(0, 1, 2, most), false},
		{of(1<<32, 1), false}, {of(0, 1<<32+1), false}, {of(least+2, 1), false}, {of(-2, -4), false},

		// Equal numbers at indices that do not ascend in one, or in both.
		{of(0, 1, 0, 2), false}, {of(0, 1, 2, 1), false}, {of(0, 1, 0, 1), false},
		{of(0, 2, 2, 1), false}, {of(2, 1, 0, 2), false}, {of(2, 2, 0, 1), false},
		{of(0, 1, 2, 2, 2, 4), false}, {of(0, 1, 2, 4, 3, 3), false}, {of(1, 0, 2, 2, 0, 4), false},
		{of(0, 2, 2, 1, 3, 3), false}, {of(2, 1, 0, 2, 3, 3), false},
	} {
		if got := pairs.Good(a, b, c.l); got != c.want {
			t.Errorf("P7.1: Good(%d, %d, %v): %v", a, b, c.l, got)
		}
		// What is valid is so with the two lists exchanged, too.
		if got := pairs.Good(b, a, pairs.Turn(c.l)); got != c.want {
			t.Errorf("P7.1: Good(%d, %d, turned %v): %v", b, a, c.l, got)
		}
	}
}

// P7.1: lists without an index, and numbers of any size.
func TestGoodOfOtherLists(t *testing.T) {
	for _, c := range []struct {
		a, b []int
		l    []api.Pair
		want bool
	}{
		{nil, nil, nil, true}, {[]int{}, []int{}, []api.Pair{}, true}, {nil, []int{1}, nil, true}, {[]int{1}, nil, nil, true},
		{nil, nil, of(0, 0), false}, {nil, []int{0}, of(0, 0), false}, {[]int{0}, nil, of(0, 0), false},
		{nil, nil, of(-1, -1), false}, {nil, []int{0}, of(-1, 0), false}, {[]int{0}, nil, of(0, -1), false},
		{[]int{most}, []int{least}, of(0, 0), false},
		{[]int{most, least}, []int{most, least}, of(0, 0, 1, 1), true},
		{[]int{1}, []int{1 + 1<<32}, of(0, 0), false},
		{[]int{-1}, []int{1}, of(0, 0), false},
		{[]int{0}, []int{least}, of(0, 0), false},
		// An index behind a list is none of it, whatever memory is there.
		{[]int{5, 5}[:1], []int{5, 5}, of(1, 1), false},
		{[]int{5, 5}, []int{5, 5}[:1], of(1, 1), false},
	} {
		if got := pairs.Good(c.a, c.b, c.l); got != c.want {
			t.Errorf("P7.1: Good(%d, %d, %v): %v", c.a, c.b, c.l, got)
		}
	}
}

// P7.1: every list of up to three pairs in and about two short lists.
func TestGoodOfAllShortLists(t *testing.T) {
	for _, c := range []struct{ a, b []int }{
		{[]int{1, 1}, []int{1, 1, 1}},
		{[]int{1, 2, 1}, []int{2, 1}},
		{[]int{1}, []int{1, 1}},
		{[]int{3}, nil},
	} {
		valid := 0
		lists(square(-1, 0, 1, 2, 3), 3, func(l []api.Pair) {
			want := good(c.a, c.b, l)
			if want {
				valid++
			}
			if got := pairs.Good(c.a, c.b, l); got != want {
				t.Fatalf("P7.1: Good(%d, %d, %v): %v", c.a, c.b, l, got)
			}
		})
		if valid == 0 || len(c.b) > 0 && valid == 1 {
			t.Fatalf("%d, %d: %d valid lists", c.a, c.b, valid)
		}
	}
}

// P7.1: valid lists, and the same with one number of one pair changed.
func TestGoodOfManyLists(t *testing.T) {
	r := rand.New(rand.NewSource(7))
	for range 3000 {
		kinds := 1 + r.Intn(5)
		a, b := some(r, 40, kinds), some(r, 40, kinds)
		l := aligned(r, a, b)
		if !pairs.Good(a, b, l) {
			t.Fatalf("P7.1: Good(%d, %d, %v): false", a, b, l)
		}
		if len(l) == 0 {
			continue
		}
		at, by := r.Intn(len(l)), r.Intn(9)-4
		if r.Intn(2) == 0 {
			l[at].I += by
		} else {
			l[at].J += by
		}
		if got, want := pairs.Good(a, b, l), good(a, b, l); got != want {
			t.Fatalf("P7.1: Good(%d, %d, %v): %v", a, b, l, got)
		}
	}
}

// P7.1: lists that differ in an I, in a J, in the last pair alone, in their
// length alone, and not at all; each one is ahead of all that follow.
func TestLess(t *testing.T) {
	rising := [][]api.Pair{
		nil,
		of(least, least), of(least, least, least, least), of(least, most), of(least+1, least),
		of(-5, 3), of(-1, most), of(-1, most, most, most),
		of(0, least), of(0, -1), of(0, 0), of(0, 0, least, least), of(0, 0, -1, 9), of(0, 0, 0, 0), of(0, 0, 0, 0, 0, 0),
		of(0, 0, 1, 6), of(0, 0, 1, 7), of(0, 0, 1, 7, 2, 8), of(0, 0, 1, 7, 2, 9), of(0, 0, 1, 7, 3, 8), of(0, 0, 2, 1), of(0, 0, most, most),
		of(0, 1), of(0, 1, 1, 0), of(0, 2), of(0, 10), of(0, 1<<32), of(0, most),
		of(1, 0), of(1, 0, 9, 9, 9, 9), of(1, 9), of(2, -1), of(9, 0), of(10, 0),
		of(1<<32, 0), of(1<<32, 1), of(1<<32+1, 0), of(most, least), of(most, most), of(most, most, least, least), of(most, most, most, most),
	}
	for i, x := range rising {
		for k, y := range rising {
			if got := pairs.Less(slices.Clone(x), slices.Clone(y)); got != (i < k) {
				t.Errorf("P7.1: Less(%v, %v): %v", x, y, got)
			}
		}
		if pairs.Less(x, x) {
			t.Errorf("P7.2: Less(%v, the same): true", x)
		}
	}
	if pairs.Less(nil, []api.Pair{}) || pairs.Less([]api.Pair{}, nil) {
		t.Errorf("R4: nil and an empty list differ")
	}
}

// P7.1: the first difference decides, wherever it is, against all that
// follows and against the lengths.
func TestFirstDifferenceDecides(t *testing.T) {
	for at := range 10 {
		for _, n := range [][2]int{{10, 10}, {at + 1, 10}, {10, at + 1}} {
			small, great := make([]api.Pair, n[0]), make([]api.Pair, n[1])
			fill(small[at:], api.Pair{I: 9, J: 9})
			fill(great[at:], api.Pair{I: -9, J: -9})
			for _, c := range [][2]api.Pair{{{I: 1, J: 5}, {I: 2, J: 4}}, {{I: 1, J: 5}, {I: 1, J: 6}}, {{I: -1, J: 0}, {I: 0, J: -1}}, {{I: least, J: 0}, {I: most, J: 0}}, {{I: 0, J: least}, {I: 0, J: most}}} {
				small[at], great[at] = c[0], c[1]
				if !pairs.Less(small, great) || pairs.Less(great, small) {
					t.Errorf("P7.1: Less(%v, %v) or its converse", small, great)
				}
			}
		}
	}
}

// P7.1 and P7.2: every two short lists against the words, and every three as
// a strict total order.
func TestLessIsAnOrder(t *testing.T) {
	var all [][]api.Pair
	lists(square(-1, 0, 2), 2, func(l []api.Pair) {
		all = append(all, l)
	})
	for _, x := range all {
		for _, y := range all {
			if got := pairs.Less(x, y); got != less(x, y) {
				t.Fatalf("P7.1: Less(%v, %v): %v", x, y, got)
			}
			if same := slices.Equal(x, y); same && pairs.Less(x, y) || !same && pairs.Less(x, y) == pairs.Less(y, x) {
				t.Fatalf("P7.2: Less(%v, %v) and its converse", x, y)
			}
			if !pairs.Less(x, y) {
				continue
			}
			for _, z := range all {
				if pairs.Less(y, z) && !pairs.Less(x, z) {
					t.Fatalf("P7.2: %v, %v, %v", x, y, z)
				}
			}
		}
	}
}

// P7.1 and P7.2: longer lists, most of which begin alike, of numbers of any
// size.
func TestLessOfManyLists(t *testing.T) {
	r := rand.New(rand.NewSource(77))
	numbers := []int{least, least + 1, -1 << 32, -1, 0, 1, 2, 1 << 31, 1 << 32, most - 1, most}
	list := func() []api.Pair {
		l := make([]api.Pair, r.Intn(8))
		for k := range l {
			if k < 3 && r.Intn(4) > 0 {
				continue
			}
			l[k] = api.Pair{I: numbers[r.Intn(len(numbers))], J: numbers[r.Intn(len(numbers))]}
		}
		return l
	}
	for range 20000 {
		x, y, z := list(), list(), list()
		if got := pairs.Less(x, y); got != less(x, y) {
			t.Fatalf("P7.1: Less(%v, %v): %v", x, y, got)
		}
		if same := slices.Equal(x, y); same && pairs.Less(x, y) || !same && pairs.Less(x, y) == pairs.Less(y, x) {
			t.Fatalf("P7.2: Less(%v, %v) and its converse", x, y)
		}
		if pairs.Less(x, y) && pairs.Less(y, z) && !pairs.Less(x, z) {
			t.Fatalf("P7.2: %v, %v, %v", x, y, z)
		}
	}
}

// P7.1: pairs are taken in their order and as often as they stand there,
// whatever J is; those without an index of a are skipped.
func TestValues(t *testing.T) {
	a := []int{5, -6, most, least}
	for _, c := range []struct {
		a    []int
		l    []api.Pair
		want []int
	}{
		{nil, nil, nil}, {a, nil, nil}, {a, []api.Pair{}, nil}, {nil, of(0, 0), nil}, {[]int{}, of(0, 0, -1, -1, 1, 1), nil},
		{a, of(0, 0), []int{5}}, {a, of(1, 0), []int{-6}}, {a, of(3, 0), []int{least}},
		{a, of(0, 0, 1, 1, 2, 2, 3, 3), []int{5, -6, most, least}},
		{a, of(3, 0, 2, 0, 1, 0, 0, 0), []int{least, most, -6, 5}},
		{a, of(1, 1, 1, 1, 0, 0, 1, 1), []int{-6, -6, 5, -6}},
		{a, of(0, -1, 1, least, 2, most, 3, 4), []int{5, -6, most, least}},
		{a, of(-1, 0), nil}, {a, of(4, 0), nil}, {a, of(least, 0), nil}, {a, of(most, 0), nil}, {a, of(1<<32, 0), nil}, {a, of(least+1, 1), nil},
		{a, of(-1, 0, 0, 0, 4, 1, 1, 1, least, 2, 2, 2, most, 3, 3, 3, -4, 0), []int{5, -6, most, least}},
		{a[:2], of(1, 0, 2, 1, 0, 2), []int{-6, 5}},
	} {
		if got := pairs.Values(c.a, c.l); !slices.Equal(got, c.want) {
			t.Errorf("P7.1: Values(%d, %v): %d", c.a, c.l, got)
		}
	}
	lists(square(-1, 0, 1, 2), 3, func(l []api.Pair) {
		for _, a := range [][]int{nil, {7}, {7, 8}, {8, 8}} {
			if got := pairs.Values(a, l); !slices.Equal(got, values(a, l)) {
				t.Fatalf("P7.1: Values(%d, %v): %d", a, l, got)
			}
		}
	})
}

// P7.2: a valid list takes the same numbers from both lists.
func TestValuesOfBoth(t *testing.T) {
	r := rand.New(rand.NewSource(72))
	longest := 0
	for range 3000 {
		kinds := 1 + r.Intn(6)
		a, b := some(r, 40, kinds), some(r, 40, kinds)
		l := aligned(r, a, b)
		x, y := pairs.Values(a, l), pairs.Values(b, pairs.Turn(l))
		if len(x) != len(l) || !slices.Equal(x, y) || !slices.Equal(x, values(a, l)) {
			t.Fatalf("P7.2: values of %v in %d and %d: %d and %d", l, a, b, x, y)
		}
		longest = max(longest, len(l))
	}
	if longest < 10 {
		t.Fatalf("no list of more than %d pairs", longest)
	}
	lists(square(0, 1, 2), 3, func(l []api.Pair) {
		a, b := []int{4, 9, 4}, []int{9, 4, 4}
		if !pairs.Good(a, b, l) {
			return
		}
		x, y := pairs.Values(a, l), pairs.Values(b, pairs.Turn(l))
		if len(x) != len(l) || !slices.Equal(x, y) {
			t.Fatalf("P7.2: values of %v in %d and %d: %d and %d", l, a, b, x, y)
		}
	})
}

// P7.1
func TestTurn(t *testing.T) {
	for _, c := range []struct{ l, want []api.Pair }{
		{nil, nil}, {[]api.Pair{}, nil},
		{of(0, 1), of(1, 0)}, {of(3, 3), of(3, 3)},
		{of(1, 2, 3, -4), of(2, 1, -4, 3)},
		{of(least, most, most, least, 0, -1), of(most, least, least, most, -1, 0)},
		{of(9, 8, 1, 2, 9, 8), of(8, 9, 2, 1, 8, 9)},
	} {
		got := pairs.Turn(c.l)
		if !slices.Equal(got, c.want) {
			t.Errorf("P7.1: Turn(%v): %v", c.l, got)
		}
		if back := pairs.Turn(got); !slices.Equal(back, c.l) {
			t.Errorf("P7.1: Turn(%v): %v", got, back)
		}
	}
}

// P7.1
func TestMove(t *testing.T) {
	for _, c := range []struct {
		l    []api.Pair
		i, j int
		want []api.Pair
	}{
		{nil, 0, 0, nil}, {nil, 1, -1, nil}, {[]api.Pair{}, most, least, nil},
		{of(1, 2, 3, -4), 0, 0, of(1, 2, 3, -4)},
		{of(1, 2, 3, -4), 10, -1, of(11, 1, 13, -5)},
		{of(1, 2, 3, -4), 10, 0, of(11, 2, 13, -4)},
		{of(1, 2, 3, -4), 0, 10, of(1, 12, 3, 6)},
		{of(5, 5, 1, 1, 5, 5), -5, -1, of(0, 4, -4, 0, 0, 4)},
		{of(0, 0), least, most, of(least, most)},
		{of(-1, 1), least, least, of(most, least+1)},
		{of(most, least), 1, -1, of(least, most)},
		{of(most, most), most, most, of(-2, -2)},
		{of(least, least), least, least, of(0, 0)},
		{of(least, most), most, least, of(-1, -1)},
		{of(1<<62, -1<<62), 1 << 62, -1 << 62, of(least, least)},
		{of(1<<31, 1<<32-1), 1 << 31, 1, of(1<<32, 1<<32)},
		{of(0, 0, most, least), 1, -1, of(1, -1, least, most)},
	} {
		got := pairs.Move(c.l, c.i, c.j)
		if !slices.Equal(got, c.want) {
			t.Errorf("P7.1: Move(%v, %d, %d): %v", c.l, c.i, c.j, got)
		}
		if back := pairs.Move(got, -c.i, -c.j); !slices.Equal(back, c.l) {
			t.Errorf("P7.1: Move(%v, %d, %d): %v", got, -c.i, -c.j, back)
		}
	}
	numbers := []int{least, least + 1, -1 << 62, -7, -1, 0, 1, 7, 1 << 62, most - 1, most}
	l := square(numbers...)
	for _, i := range numbers {
		for _, j := range numbers {
			got := pairs.Move(l, i, j)
			if len(got) != len(l) {
				t.Fatalf("P7.1: Move of %d pairs: %d pairs", len(l), len(got))
			}
			for k, p := range l {
				if want := (api.Pair{I: sum(p.I, i), J: sum(p.J, j)}); got[k] != want {
					t.Fatalf("P7.1: Move(%v, %d, %d): %v", p, i, j, got[k])
				}
			}
		}
	}
}

// P7.1 at the limit: lists that are valid to their ends, or but for their
// last pair.
func TestLimit(t *testing.T) {
	a, l := make([]int, limit), make([]api.Pair, limit)
	for k := range a {
		a[k] = k % 5
		l[k] = api.Pair{I: k, J: k}
	}
	if !pairs.Good(a, a, l) || pairs.Less(l, l) || !slices.Equal(pairs.Values(a, l), a) || !slices.Equal(pairs.Turn(l), l) {
		t.Errorf("P7.1: a list of %d pairs", limit)
	}
	moved := pairs.Move(l, 1, 2)
	if len(moved) != limit || moved[0] != (api.Pair{I: 1, J: 2}) || moved[limit-1] != (api.Pair{I: limit, J: limit + 1}) {
		t.Errorf("P7.1: Move of %d pairs", limit)
	}
	if !pairs.Less(l[:limit-1], l) || pairs.Less(l, l[:limit-1]) {
		t.Errorf("P7.1: Less of %d pairs", limit)
	}
	for _, p := range of(limit-1, limit, limit, limit-1, limit-1, limit-2, limit-2, limit-1, limit-1, -1) {
		bad := slices.Clone(l)
		bad[limit-1] = p
		if pairs.Good(a, a, bad) {
			t.Errorf("P7.1: Good of %d pairs with %v at the end", limit, p)
		}
		if ahead := p.I < limit-1 || p.I == limit-1 && p.J < limit-1; pairs.Less(bad, l) != ahead || pairs.Less(l, bad) == ahead {
			t.Errorf("P7.1: Less of %d pairs with %v at the end", limit, p)
		}
	}
}

// R1: no pairs and no lists make a call panic, also above the limit.
func TestNoPanic(t *testing.T) {
	numbers := []int{least, -1, 0, 1, 2, 3, limit, 1 << 32, most}
	lists(square(numbers...), 2, func(l []api.Pair) {
		for _, a := range [][]int{nil, {4}, {4, 4, 4}} {
			pairs.Good(a, []int{4, 4}, l)
			pairs.Good([]int{4, 4}, a, l)
			pairs.Values(a, l)
		}
		pairs.Less(l, nil)
		pairs.Less(nil, l)
		pairs.Turn(l)
		pairs.Move(l, most, least)
	})
	a, l := make([]int, limit+1), make([]api.Pair, limit+1)
	for k := range l {
		l[k] = api.Pair{I: k, J: k}
	}
	pairs.Good(a, a, l)
	pairs.Good(a, nil, l)
	pairs.Less(l, l)
	pairs.Values(a, l)
	pairs.Values(nil, l)
	pairs.Turn(l)
	pairs.Move(l, 1, 1)
}

// R4: no call modifies an argument or its spare capacity, which is no part of
// a list.
func TestArgumentsStay(t *testing.T) {
	a, b := []int{1, 2, 1, 3, 1, 2}, []int{2, 1, 1, 3, 1, 2}
	l, m := of(0, 1, 2, 2, 3, 3, 4, 4, 5, 5), of(0, 1, 2, 2, 3, 4, 4, 5)
	keptA, keptB, keptL, keptM := slices.Clone(a), slices.Clone(b), slices.Clone(l), slices.Clone(m)
	for n := range len(l) + 1 {
		if !pairs.Good(a, b, l[:n]) {
			t.Errorf("P7.1: Good(%d, %d, %v): false", a, b, l[:n])
		}
		if got := pairs.Good(a[:n], b[:n], l); got {
			t.Errorf("P7.1: Good(%d, %d, %v): true", a[:n], b[:n], l)
		}
		if pairs.Less(l[:n], m[:min(n, 3)]) != (n >= 3) {
			t.Errorf("P7.1: Less(%v, %v)", l[:n], m[:min(n, 3)])
		}
		pairs.Less(m[:min(n, 4)], l[:n])
		for _, with := range []int{0, 1, -1, most} {
			fill(pairs.Values(a[:n], l), -7)
			fill(pairs.Values(a, l[:n]), -7)
			fill(pairs.Turn(l[:n]), api.Pair{I: -7, J: -7})
			fill(pairs.Move(l[:n], with, with), api.Pair{I: -7, J: -7})
		}
		if !slices.Equal(a, keptA) || !slices.Equal(b, keptB) || !slices.Equal(l, keptL) || !slices.Equal(m, keptM) {
			t.Fatalf("R4: a list was modified: %d, %d, %v, %v", a, b, l, m)
		}
	}
}

// R4 and R5: results are new memory each time: whoever changes one, or an
// argument, changes no other result.
func TestResultsAreNew(t *testing.T) {
	bad := api.Pair{I: -7, J: -7}
	for _, kept := range [][]api.Pair{nil, of(0, 0), of(0, 1, 2, 2), of(1, 1, 1, 1, 0, 0), of(9, 9, -1, 0)} {
		for _, spare := range []int{0, 1, 20} {
			l := append(make([]api.Pair, 0, len(kept)+spare), kept...)
			a := append(make([]int, 0, 3+spare), 4, 5, 6)
			for name, call := range map[string]func() []api.Pair{
				"Turn":              func() []api.Pair { return pairs.Turn(l) },
				"Move by something": func() []api.Pair { return pairs.Move(l, 3, -2) },
				"Move by nothing":   func() []api.Pair { return pairs.Move(l, 0, 0) },
			} {
				want := slices.Clone(call())
				first, second := call(), call()
				fill(first, bad)
				third := call()
				if !slices.Equal(l, kept) || !slices.Equal(second, want) || !slices.Equal(third, want) {
					t.Errorf("R4: %s of %v: the result shares memory", name, kept)
				}
				fill(l, bad)
				if !slices.Equal(second, want) || !slices.Equal(third, want) {
					t.Errorf("R4: %s of %v: the result changes with the list", name, kept)
				}
				copy(l, kept)
			}
			want := values(a, kept)
			first, second := pairs.Values(a, l), pairs.Values(a, l)
			fill(first, -7)
			third := pairs.Values(a, l)
			fill(a, -7)
			fill(l, bad)
			if !slices.Equal(second, want) || !slices.Equal(third, want) {
				t.Errorf("R4: Values of %v: the result shares memory", kept)
			}
		}
	}
}

// R5: answers hang on the arguments alone: the lists may be one piece of
// memory or several, and what was asked before does not matter.
func TestAnswersStay(t *testing.T) {
	whole := []int{1, 1, 2, 1, 1, 2}
	l := of(0, 0, 1, 1, 2, 2)
	for round := range 4 {
		if !pairs.Good(whole, whole, l) || !pairs.Good(whole[:3], whole[3:], l) || pairs.Good(whole[1:], whole[3:], l) {
			t.Errorf("R5: Good, round %d", round)
		}
		if pairs.Good(whole, whole, of(0, 2)) || !pairs.Less(l[:2], l) || pairs.Less(l, l[:2]) || pairs.Less(l[:1], l[:1]) || !pairs.Less(l[:2], l[1:]) {
			t.Errorf("R5: Less, round %d", round)
		}
		if got := pairs.Values(whole, l); !slices.Equal(got, []int{1, 1, 2}) {
			t.Errorf("R5: Values, round %d: %d", round, got)
		}
		if got := pairs.Move(pairs.Turn(l), round, 0); len(got) != 3 || got[2] != (api.Pair{I: 2 + round, J: 2}) {
			t.Errorf("R5: Move, round %d: %v", round, got)
		}
	}
}
