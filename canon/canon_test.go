package canon_test

import (
	"fmt"
	"math"
	"math/rand"
	"slices"
	"sync"
	"testing"

	"tatting/api"
	"tatting/band"
	"tatting/canon"
	"tatting/grid"
	"tatting/halve"
	"tatting/hunt"
	"tatting/least"
	"tatting/onp"
	"tatting/pairs"
	"tatting/russ"
	"tatting/tile"
	"tatting/walk"
)

const (
	lowest  = math.MinInt
	highest = math.MaxInt
	limit   = api.MaxTokens
)

// wide has numbers at the ends of the range of an int, about 0 and where fewer
// bits end.
var wide = []int{lowest, lowest + 1, -1 << 32, -1<<31 - 1, -7, -1, 0, 1, 1 << 31, 1<<32 + 1, highest - 1, highest}

// call is one of the three functions, with its name.
type call struct {
	name string
	ask  func(a, b []int, l []api.Pair) ([]api.Pair, api.Errno)
}

// calls has the three functions.
func calls() []call {
	return []call{{"Left", canon.Left}, {"Top", canon.Top}, {"Of", canon.Of}}
}

// of makes a list of pairs of numbers, two and two.
func of(n ...int) []api.Pair {
	var l []api.Pair
	for k := 0; k+1 < len(n); k += 2 {
		l = append(l, api.Pair{I: n[k], J: n[k+1]})
	}
	return l
}

// good follows the words of chapter 7.
func good(a, b []int, l []api.Pair) bool {
	for k, p := range l {
		if p.I < 0 || p.I >= len(a) || p.J < 0 || p.J >= len(b) || a[p.I] != b[p.J] {
			return false
		}
		if k > 0 && (p.I <= l[k-1].I || p.J <= l[k-1].J) {
			return false
		}
	}
	return true
}

// less follows the words of chapter 7: it lays out both sequences of numbers.
func less(x, y []api.Pair) bool {
	var p, q []int
	for _, e := range x {
		p = append(p, e.I, e.J)
	}
	for _, e := range y {
		q = append(q, e.I, e.J)
	}
	return slices.Compare(p, q) < 0
}

// valid returns all valid lists of a and b that begin with l, of any length.
func valid(a, b []int, l []api.Pair) [][]api.Pair {
	all := [][]api.Pair{slices.Clone(l)}
	i, j := 0, 0
	if len(l) > 0 {
		i, j = l[len(l)-1].I+1, l[len(l)-1].J+1
	}
	for x := i; x < len(a); x++ {
		for y := j; y < len(b); y++ {
			if a[x] == b[y] {
				all = append(all, valid(a, b, append(slices.Clone(l), api.Pair{I: x, J: y}))...)
			}
		}
	}
	return all
}

// first returns the longest one of all lists, and of these the least.
func first(all [][]api.Pair) []api.Pair {
	var l []api.Pair
	for _, x := range all {
		if len(x) > len(l) || len(x) == len(l) && less(x, l) {
			l = x
		}
	}
	return l
}

// chained has the canonical list of longer lists: the length of the longest
// chain of pairs from each pair on, then the first pair of all that can go on
// with as many as are missing.
func chained(a, b []int) []api.Pair {
	chains := make([][]int, len(a)+1)
	chains[len(a)] = make([]int, len(b)+1)
	for i := len(a) - 1; i >= 0; i-- {
		chains[i] = slices.Clone(chains[i+1])
		for j := len(b) - 1; j >= 0; j-- {
			chains[i][j] = max(chains[i][j], chains[i][j+1])
			if a[i] == b[j] {
				chains[i][j] = max(chains[i][j], chains[i+1][j+1]+1)
			}
		}
	}
	var l []api.Pair
	from := 0
	for i := range a {
		for j := from; j < len(b); j++ {
			if a[i] == b[j] && len(l)+1+chains[i+1][j+1] == chains[0][0] {
				l = append(l, api.Pair{I: i, J: j})
				from = j + 1
				break
			}
		}
	}
	return l
}

// leftWords follows the words of P23.1 for Left: of all indices of b those
// that will do, and of these the least.
func leftWords(a, b []int, l []api.Pair) []api.Pair {
	var z []api.Pair
	for _, p := range l {
		var will []int
		for j, y := range b {
			if y == a[p.I] && (len(z) == 0 || j > z[len(z)-1].J) {
				will = append(will, j)
			}
		}
		z = append(z, api.Pair{I: p.I, J: slices.Min(will)})
	}
	return z
}

// topWords follows the words of P23.1 for Top.
func topWords(a, b []int, l []api.Pair) []api.Pair {
	var z []api.Pair
	for _, p := range l {
		var will []int
		for i, x := range a {
			if x == b[p.J] && (len(z) == 0 || i > z[len(z)-1].I) {
				will = append(will, i)
			}
		}
		z = append(z, api.Pair{I: slices.Min(will), J: p.J})
	}
	return z
}

// replacedFault tells what Left or Top answers otherwise than the list, or
// what of P23.2 does not hold, or nothing.
func replacedFault(c call, a, b []int, l, want []api.Pair) string {
	z, e := c.ask(a, b, l)
	if e != api.OK || !slices.Equal(z, want) {
		return fmt.Sprintf("P23.1: %s of %v: %v, not %v, error %d", c.name, l, z, want, e)
	}
	if !good(a, b, z) || !pairs.Good(a, b, z) || len(z) != len(l) {
		return fmt.Sprintf("P23.2: %s of %v: %v is not valid, or not as long", c.name, l, z)
	}
	if less(l, z) || pairs.Less(l, z) {
		return fmt.Sprintf("P23.2: %s of %v: %v is greater", c.name, l, z)
	}
	if again, e := c.ask(a, b, z); e != api.OK || !slices.Equal(again, z) {
		return fmt.Sprintf("P23.1: %s of %v: %v, and of that: %v, error %d", c.name, l, z, again, e)
	}
	return ""
}

// ofFault tells what Of answers otherwise than P23.1 asks, or nothing: best is
// the canonical list.
func ofFault(a, b []int, l, best []api.Pair) string {
	z, e := canon.Of(a, b, l)
	if len(l) < len(best) {
		if e != api.ENONE || z != nil {
			return fmt.Sprintf("P23.1: Of a list of %d pairs, not %d: %v, error %d", len(l), len(best), z, e)
		}
		return ""
	}
	if e != api.OK || !slices.Equal(z, best) {
		return fmt.Sprintf("P23.1: Of %v: %v, not %v, error %d", l, z, best, e)
	}
	return ""
}

// sameFault tells which function changes the canonical list, or nothing.
func sameFault(a, b []int, best []api.Pair) string {
	for _, c := range calls() {
		if z, e := c.ask(a, b, best); e != api.OK || !slices.Equal(z, best) {
			return fmt.Sprintf("P23.2: %s of the canonical list %v: %v, error %d", c.name, best, z, e)
		}
	}
	return ""
}

// fault tells what the functions answer otherwise than P23.1 and P23.2 ask for
// a valid list, or nothing: best is the canonical list.
func fault(a, b []int, l, best []api.Pair) string {
	for _, f := range []string{
		replacedFault(calls()[0], a, b, l, leftWords(a, b, l)),
		replacedFault(calls()[1], a, b, l, topWords(a, b, l)),
		ofFault(a, b, l, best),
		sameFault(a, b, best),
	} {
		if f != "" {
			return f
		}
	}
	return ""
}

// wrongFault tells which function takes a list that is not valid, or answers
// pairs beside the error (R2), or nothing.
func wrongFault(a, b []int, l []api.Pair) string {
	for _, c := range calls() {
		if z, e := c.ask(a, b, l); e != api.EARG || z != nil {
			return fmt.Sprintf("P23.1: %s of %v: %v, error %d", c.name, l, z, e)
		}
	}
	return ""
}

// told writes two lists, unless they are long.
func told(a, b []int) string {
	if len(a)+len(b) > 200 {
		return fmt.Sprintf("%d and %d numbers", len(a), len(b))
	}
	return fmt.Sprintf("%d and %d", a, b)
}

// check holds all functions against the chapter's words for a valid list.
func check(t *testing.T, a, b []int, l, best []api.Pair) {
	t.Helper()
	if f := fault(a, b, l, best); f != "" {
		t.Fatalf("%s: %.500s", told(a, b), f)
	}
}

// checkWrong holds all functions against a list that is not valid.
func checkWrong(t *testing.T, a, b []int, l []api.Pair) {
	t.Helper()
	if f := wrongFault(a, b, l); f != "" {
		t.Fatalf("%s: %.500s", told(a, b), f)
	}
}

// checkAll holds all functions against the chapter's words for every valid
// list of a and b, and the canonical list against the one that is told.
func checkAll(t *testing.T, a, b []int, want []api.Pair) {
	t.Helper()
	all := valid(a, b, nil)
	if best := first(all); !slices.Equal(best, want) {
		t.Fatalf("%s: the canonical list is %v, not %v", told(a, b), best, want)
	}
	for _, l := range all {
		check(t, a, b, l, want)
	}
}

// checkEither holds all functions against a list of pairs, valid or not.
func checkEither(t *testing.T, a, b []int, l, best []api.Pair) {
	t.Helper()
	if good(a, b, l) {
		check(t, a, b, l, best)
	} else {
		checkWrong(t, a, b, l)
	}
}

// checkTold holds all functions against lists that are told.
func checkTold(t *testing.T, a, b []int, l, left, top, best []api.Pair) {
	t.Helper()
	for _, f := range []string{replacedFault(calls()[0], a, b, l, left), replacedFault(calls()[1], a, b, l, top), ofFault(a, b, l, best), sameFault(a, b, best)} {
		if f != "" {
			t.Fatalf("%s: %.500s", told(a, b), f)
		}
	}
}

// found has the longest lists of a and b that the packages that find one
// answer.
func found(a, b []int) [][]api.Pair {
	table, _ := grid.Run(a, b)
	divided, _ := halve.Run(a, b)
	blocks, _ := tile.New(2)
	squares, _, _ := russ.Run(blocks, a, b)
	hits, _ := hunt.Run(a, b)
	far, _ := onp.Run(a, b)
	banded, _ := band.Run(a, b)
	down, _, _ := walk.Run(0, a, b, walk.Root(len(a)))
	back, _, _ := walk.Run(1, a, b, walk.Root(len(a)))
	return [][]api.Pair{table, divided, squares, hits, far, banded, down, back, least.Of(a, b)}
}

// lists calls use with every list of up to length of the given elements.
func lists[E any](elements []E, length int, use func([]E)) {
	last := [][]E{nil}
	use(nil)
	for range length {
		var next [][]E
		for _, l := range last {
			for _, e := range elements {
				next = append(next, append(slices.Clone(l), e))
			}
		}
		for _, l := range next {
			use(l)
		}
		last = next
	}
}

// two calls use with every two lists of up to length of the given elements.
func two[E any](elements []E, length int, use func(a, b []E)) {
	lists(elements, length, func(a []E) {
		lists(elements, length, func(b []E) {
			use(a, b)
		})
	})
}

// square has all pairs of two of the numbers.
func square(n ...int) []api.Pair {
	var l []api.Pair
	for _, i := range n {
		for _, j := range n {
			l = append(l, api.Pair{I: i, J: j})
		}
	}
	return l
}

// some returns up to length numbers out of few, about 0.
func some(r *rand.Rand, length, kinds int) []int {
	l := make([]int, r.Intn(length+1))
	for i := range l {
		l[i] = r.Intn(kinds) - kinds/2
	}
	return l
}

// counted returns n numbers from first on.
func counted(n, first int) []int {
	l := make([]int, n)
	for i := range l {
		l[i] = first + i
	}
	return l
}

// diagonal returns n pairs from (i, j) on.
func diagonal(n, i, j int) []api.Pair {
	l := make([]api.Pair, n)
	for k := range l {
		l[k] = api.Pair{I: i + k, J: j + k}
	}
	return l
}

// aligned returns a valid list of a and b, not always a longest one.
func aligned(r *rand.Rand, a, b []int) []api.Pair {
	var l []api.Pair
	j := 0
	for i := range a {
		if r.Intn(3) == 0 {
			continue
		}
		for k := j + r.Intn(2); k < len(b) && k < j+5; k++ {
			if a[i] == b[k] {
				l = append(l, api.Pair{I: i, J: k})
				j = k + 1
				break
			}
		}
	}
	return l
}

// late returns a longest list of a and b whose pairs lie towards the ends: the
// canonical one of the reversed lists.
func late(a, b []int) []api.Pair {
	c, d := slices.Clone(a), slices.Clone(b)
	slices.Reverse(c)
	slices.Reverse(d)
	l := chained(c, d)
	slices.Reverse(l)
	for k, p := range l {
		l[k] = api.Pair{I: len(a) - 1 - p.I, J: len(b) - 1 - p.J}
	}
	return l
}

// fill overwrites a list and its spare capacity.
func fill[E any](l []E, with E) {
	l = l[:cap(l)]
	for i := range l {
		l[i] = with
	}
}

// roomy returns a copy of l with spare capacity, which holds an element of its
// own.
func roomy[E any](l []E, spare E) []E {
	whole := slices.Repeat([]E{spare}, len(l)+5)
	copy(whole, l)
	return whole[:len(l)]
}

// stayed reports whether a list that roomy made is as it was, with its spare
// capacity.
func stayed[E comparable](l, was []E, spare E) bool {
	return slices.Equal(l[:cap(l)], roomy(was, spare)[:len(was)+5])
}

// P23.1: the example of the chapter, and what goes with it.
func TestExamples(t *testing.T) {
	if l, e := canon.Left([]int{1}, []int{1, 1}, of(0, 1)); e != api.OK || !slices.Equal(l, of(0, 0)) {
		t.Errorf("P23.1: Left: %v, error %d", l, e)
	}
	if l, e := canon.Top([]int{1}, []int{1, 1}, of(0, 1)); e != api.OK || !slices.Equal(l, of(0, 1)) {
		t.Errorf("P23.1: Top: %v, error %d", l, e)
	}
	if l, e := canon.Top([]int{1, 1}, []int{1}, of(1, 0)); e != api.OK || !slices.Equal(l, of(0, 0)) {
		t.Errorf("P23.1: Top: %v, error %d", l, e)
	}
	if l, e := canon.Left([]int{1, 1}, []int{1}, of(1, 0)); e != api.OK || !slices.Equal(l, of(1, 0)) {
		t.Errorf("P23.1: Left: %v, error %d", l, e)
	}
	if l, e := canon.Of([]int{1}, []int{1, 1}, of(0, 1)); e != api.OK || !slices.Equal(l, of(0, 0)) {
		t.Errorf("P23.1: Of: %v, error %d", l, e)
	}
	// What the example of least asks.
	if l, e := canon.Of([]int{1, 2}, []int{2, 1}, of(1, 0)); e != api.OK || !slices.Equal(l, of(0, 1)) {
		t.Errorf("P23.1: Of: %v, error %d", l, e)
	}
}

// P23.1: ordinary lists, with all answers told.
func TestTold(t *testing.T) {
	for _, c := range []struct {
		a, b               []int
		l, left, top, best []api.Pair
	}{
		// One number moves ahead, in b, in a and in both.
		{[]int{5}, []int{5, 5, 5}, of(0, 2), of(0, 0), of(0, 2), of(0, 0)}, {[]int{5, 5, 5}, []int{5}, of(2, 0), of(2, 0), of(0, 0), of(0, 0)}, {[]int{5, 5}, []int{4, 5, 5}, of(0, 1, 1, 2), of(0, 1, 1, 2), of(0, 1, 1, 2), of(0, 1, 1, 2)},
		{[]int{4, 5, 5}, []int{3, 5, 5, 5}, of(1, 2, 2, 3), of(1, 1, 2, 2), of(1, 2, 2, 3), of(1, 1, 2, 2)}, {[]int{3, 5, 5, 5}, []int{4, 5, 5}, of(2, 1, 3, 2), of(2, 1, 3, 2), of(1, 1, 2, 2), of(1, 1, 2, 2)},

		// The pair before goes ahead first, which makes room for the next one.
		{[]int{1, 2}, []int{1, 2, 1, 2}, of(0, 2, 1, 3), of(0, 0, 1, 1), of(0, 2, 1, 3), of(0, 0, 1, 1)}, {[]int{1, 2, 1, 2}, []int{1, 2}, of(2, 0, 3, 1), of(2, 0, 3, 1), of(0, 0, 1, 1), of(0, 0, 1, 1)},
		{[]int{1, 1}, []int{1, 1, 1, 1}, of(0, 1, 1, 3), of(0, 0, 1, 1), of(0, 1, 1, 3), of(0, 0, 1, 1)}, {[]int{1, 1, 1, 1}, []int{1, 1}, of(1, 0, 3, 1), of(1, 0, 3, 1), of(0, 0, 1, 1), of(0, 0, 1, 1)},

		// A number ahead of the pair before is not taken.
		{[]int{2, 1}, []int{1, 2, 1, 1}, of(0, 1, 1, 3), of(0, 1, 1, 2), of(0, 1, 1, 3), of(0, 1, 1, 2)}, {[]int{1, 2, 1, 1}, []int{2, 1}, of(1, 0, 3, 1), of(1, 0, 3, 1), of(1, 0, 2, 1), of(1, 0, 2, 1)},

		// What only one of both can move, and what only Of finds.
		{[]int{1, 2, 1}, []int{1, 2, 1}, of(0, 2), of(0, 0), of(0, 2), of(0, 0, 1, 1, 2, 2)}, {[]int{1, 2, 1}, []int{1, 2, 1}, of(2, 0), of(2, 0), of(0, 0), of(0, 0, 1, 1, 2, 2)}, {[]int{1, 2, 1}, []int{1, 2, 1}, of(2, 2), of(2, 0), of(0, 2), of(0, 0, 1, 1, 2, 2)},
		{[]int{1, 2}, []int{2, 1}, of(1, 0), of(1, 0), of(1, 0), of(0, 1)}, {[]int{2, 1}, []int{1, 2}, of(1, 0), of(1, 0), of(1, 0), of(0, 1)}, {[]int{1, 2, 3}, []int{3, 2, 1}, of(1, 1), of(1, 1), of(1, 1), of(0, 2)},
		{[]int{1, 2, 3, 4}, []int{2, 9, 4, 3}, of(1, 0, 3, 2), of(1, 0, 3, 2), of(1, 0, 3, 2), of(1, 0, 2, 3)}, {[]int{1, 2, 3, 4}, []int{3, 4, 1, 2}, of(2, 0, 3, 1), of(2, 0, 3, 1), of(2, 0, 3, 1), of(0, 2, 1, 3)},

		// Shorter than the longest ones.
		{[]int{1, 2, 2, 3}, []int{1, 2, 2, 3}, of(2, 2, 3, 3), of(2, 1, 3, 3), of(1, 2, 3, 3), diagonal(4, 0, 0)}, {[]int{1, 2, 2, 3}, []int{1, 2, 2, 3}, nil, nil, nil, diagonal(4, 0, 0)}, {[]int{7, 7, 7}, []int{7, 7, 7}, of(1, 1, 2, 2), of(1, 0, 2, 1), of(0, 1, 1, 2), diagonal(3, 0, 0)},
	} {
		checkTold(t, c.a, c.b, c.l, c.left, c.top, c.best)
		checkAll(t, c.a, c.b, c.best)
	}
}

// P23.1 and P23.2: the edges, with every valid list and the canonical one
// told.
func TestEdges(t *testing.T) {
	for _, c := range []struct {
		a, b []int
		want []api.Pair
	}{
		// Nothing, and nothing alike: the empty list is the longest one.
		{nil, nil, nil}, {nil, []int{}, nil}, {[]int{}, nil, nil}, {[]int{}, []int{}, nil}, {nil, []int{1}, nil}, {[]int{1}, nil, nil}, {[]int{}, []int{0, 0, 0}, nil}, {[]int{0, 0, 0}, []int{}, nil},
		{[]int{0}, []int{1}, nil}, {[]int{1, 2, 3}, []int{4, 5, 6, 7}, nil}, {[]int{1, 1, 1}, []int{2, 2}, nil}, {[]int{-1}, []int{1}, nil},

		// One number, the same list twice, one number many times.
		{[]int{0}, []int{0}, of(0, 0)}, {[]int{-1}, []int{-1}, of(0, 0)}, {[]int{1, 2, 3, 2, 1}, []int{1, 2, 3, 2, 1}, diagonal(5, 0, 0)}, {[]int{7, 7, 7, 7}, []int{7, 7, 7, 7}, diagonal(4, 0, 0)}, {[]int{7, 7}, []int{7, 7, 7, 7, 7}, diagonal(2, 0, 0)}, {[]int{7, 7, 7, 7, 7}, []int{7, 7}, diagonal(2, 0, 0)}, {[]int{0}, make([]int, 9), of(0, 0)}, {make([]int, 9), []int{0}, of(0, 0)},

		// Numbers of any size.
		{[]int{lowest}, []int{lowest}, of(0, 0)}, {[]int{highest}, []int{highest}, of(0, 0)}, {[]int{lowest}, []int{highest}, nil}, {[]int{lowest}, []int{0}, nil}, {[]int{lowest, highest}, []int{lowest, highest}, of(0, 0, 1, 1)}, {[]int{lowest, highest}, []int{highest, lowest}, of(0, 1)}, {[]int{lowest, 0, highest}, []int{highest, 0, highest, lowest}, of(1, 1, 2, 2)}, {[]int{lowest, lowest}, []int{-1, lowest, lowest, lowest}, of(0, 1, 1, 2)},
		{[]int{-1, -2, -3, -2}, []int{-2, -3, -2, -1}, of(1, 0, 2, 1, 3, 2)}, {[]int{0, -1}, []int{-1, 0, -1}, of(0, 1, 1, 2)}, {[]int{1}, []int{1 + 1<<32, 1}, of(0, 1)}, {[]int{1 << 31}, []int{-1 << 31}, nil}, {[]int{0}, []int{256, 1 << 16, 0}, of(0, 2)}, {[]int{1 << 53}, []int{1<<53 + 1, 1 << 53}, of(0, 1)},
	} {
		checkAll(t, c.a, c.b, c.want)
		for _, none := range [][]api.Pair{nil, {}} {
			check(t, c.a, c.b, none, c.want)
		}
	}
}

// P23.1 and R2: pairs where there are no indices at all.
func TestWrongPairsOfNothing(t *testing.T) {
	for _, p := range square(lowest, lowest+1, -1, 0, 1, limit, highest-1, highest) {
		for _, c := range [][2][]int{{nil, nil}, {nil, {1, 1}}, {{1, 1}, nil}, {{}, {1}}, {{1}, {}}, {{1, 1}, {2, 2}}, {counted(5, 0), counted(5, 5)}} {
			checkWrong(t, c[0], c[1], []api.Pair{p})
			checkWrong(t, c[0], c[1], []api.Pair{p, p})
		}
	}
}

// P23.1 and R2: a valid list with one fault in its first pair, in one in the
// middle or in its last one.
func TestWrongPairs(t *testing.T) {
	a, b := []int{4, 1, 2, 3, 2, 1, 5, 5}, []int{1, 6, 2, 3, 3, 2, 1, 5, 5, 5}
	l := of(1, 0, 2, 2, 3, 3, 4, 5, 5, 6, 6, 7, 7, 8)
	check(t, a, b, l, chained(a, b))
	for k := range l {
		for _, n := range []int{lowest, lowest + 1, -1 << 32, -limit, -2, -1, 1 << 32, limit, highest - 1, highest} {
			for _, p := range []api.Pair{{I: n, J: l[k].J}, {I: l[k].I, J: n}, {I: n, J: n}} {
				checkWrong(t, a, b, put(l, k, p))
			}
		}
		for past := range 3 {
			for _, p := range []api.Pair{{I: len(a) + past, J: l[k].J}, {I: l[k].I, J: len(b) + past}, {I: len(a) + past, J: len(b) + past}, {I: len(b) + past, J: len(a)}} {
				checkWrong(t, a, b, put(l, k, p))
			}
		}
		// Every other pair in its place; those that are valid too are few.
		for i := range a {
			for j := range b {
				checkEither(t, a, b, put(l, k, api.Pair{I: i, J: j}), chained(a, b))
			}
		}
	}
}

// put returns l with p in place of pair k.
func put(l []api.Pair, k int, p api.Pair) []api.Pair {
	l = slices.Clone(l)
	l[k] = p
	return l
}

// P23.1: lists that ascend in one of both, in neither, or stand still.
func TestWrongOrder(t *testing.T) {
	const n = 7
	a := make([]int, n)
	whole := diagonal(n, 0, 0)
	checkTold(t, a, a, whole, whole, whole, whole)
	for k := 1; k < n; k++ {
		before := whole[k-1]
		for _, p := range []api.Pair{before, {I: before.I, J: k}, {I: k, J: before.J}} {
			checkWrong(t, a, a, put(whole, k, p))
		}
		swapped := slices.Clone(whole)
		swapped[k-1], swapped[k] = swapped[k], swapped[k-1]
		checkWrong(t, a, a, swapped)
		swapped = slices.Clone(whole)
		swapped[k-1].I, swapped[k].I = swapped[k].I, swapped[k-1].I
		checkWrong(t, a, a, swapped)
		swapped = slices.Clone(whole)
		swapped[k-1].J, swapped[k].J = swapped[k].J, swapped[k-1].J
		checkWrong(t, a, a, swapped)
		for at := range k {
			checkWrong(t, a, a, slices.Insert(slices.Clone(whole), k, whole[at]))
		}
	}
	checkWrong(t, a, a, slices.Insert(slices.Clone(whole), n, whole[n-1]))
	falling := slices.Clone(whole)
	slices.Reverse(falling)
	checkWrong(t, a, a, falling)
	checkWrong(t, a, a, of(0, 0, 0, 1))
	checkWrong(t, a, a, of(0, 0, 1, 0))
	checkWrong(t, a, a, of(3, 3, 2, 4))
	checkWrong(t, a, a, of(3, 3, 4, 2))
	// Longer than both lists, and with as many pairs as the longest one.
	checkWrong(t, a, a, slices.Repeat(whole, 2))
	checkWrong(t, a, a, make([]api.Pair, n))
	// Wrong goes ahead of short.
	checkWrong(t, a, a, of(1, 1, 0, 0))
}

// P23.1: pairs of numbers that differ, in lists that have much in common.
func TestWrongNumbers(t *testing.T) {
	for _, c := range [][2]int{{1, 2}, {0, 1 << 32}, {0, 256}, {0, 1 << 16}, {lowest, 0}, {lowest, highest}, {1, 1 + 1<<32}, {-1, 1<<32 - 1}, {-1, 1}, {1 << 31, -1 << 31}, {1 << 53, 1<<53 + 1}, {1 << 62, 1<<62 + 1}} {
		a, b := []int{c[0], c[0], c[1], c[0]}, []int{c[0], c[1], c[1], c[0]}
		checkTold(t, a, b, of(0, 0, 2, 2, 3, 3), of(0, 0, 2, 1, 3, 3), of(0, 0, 2, 2, 3, 3), of(0, 0, 2, 1, 3, 3))
		checkWrong(t, a, b, diagonal(4, 0, 0))
		checkWrong(t, a, b, of(0, 1, 2, 2, 3, 3))
		checkWrong(t, a, b, of(0, 0, 1, 1, 3, 3))
		checkWrong(t, a, b, of(0, 0, 1, 1))
		checkWrong(t, a, b, of(2, 3))
		checkWrong(t, c[:1], c[1:], of(0, 0))
	}
}

// P23.1 and P23.2: every two short lists with all their valid lists.
func TestAllShortLists(t *testing.T) {
	use := func(a, b []int) {
		all := valid(a, b, nil)
		best := first(all)
		if other := chained(a, b); !slices.Equal(other, best) {
			t.Fatalf("the test's own list of %d and %d: %v, not %v", a, b, other, best)
		}
		for _, l := range all {
			check(t, a, b, l, best)
		}
	}
	two([]int{1, 2}, 4, use)
	two([]int{-1, 0, 3}, 3, use)
	r := rand.New(rand.NewSource(231))
	for range 300 {
		kinds := 2 + r.Intn(5)
		use(some(r, 7, kinds), some(r, 7, kinds))
	}
}

// P23.1: every list of few pairs in and about two short lists, valid or not.
func TestAllShortListsOfPairs(t *testing.T) {
	for _, c := range [][2][]int{{{1, 1}, {1, 1, 1}}, {{1, 2, 1}, {2, 1}}, {{1}, {1, 1}}, {{3}, nil}, {nil, nil}, {{1, 2, 2}, {2, 1, 2}}} {
		best := first(valid(c[0], c[1], nil))
		lists(square(-1, 0, 1, 2, 3), 2, func(l []api.Pair) {
			checkEither(t, c[0], c[1], l, best)
		})
		lists(square(lowest, 0, 1, 2, highest), 2, func(l []api.Pair) {
			checkEither(t, c[0], c[1], l, best)
		})
		lists(square(0, 1, 2), 3, func(l []api.Pair) {
			checkEither(t, c[0], c[1], l, best)
		})
	}
}

// P23.1 and P23.2: longer lists, with the lists of pairs that other packages
// find, and with parts of them.
func TestFoundLists(t *testing.T) {
	r := rand.New(rand.NewSource(232))
	other := 0
	for round := range 300 {
		kinds := 1 + r.Intn(1+round%60)
		a, b := some(r, 120, kinds), some(r, 120, kinds)
		best := chained(a, b)
		for k, l := range append(found(a, b), late(a, b)) {
			if len(l) != len(best) {
				t.Fatalf("%s: list %d has %d pairs, not %d", told(a, b), k, len(l), len(best))
			}
			check(t, a, b, l, best)
			if !slices.Equal(l, best) {
				other++
			}
			if len(l) == 0 {
				continue
			}
			at := r.Intn(len(l))
			check(t, a, b, slices.Delete(slices.Clone(l), at, at+1), best)
			check(t, a, b, l[:at], best)
			check(t, a, b, l[at:], best)
			check(t, a, b, l[1:], best)
		}
	}
	if other < 300 {
		t.Fatalf("only %d lists other than the canonical one", other)
	}
}

// P23.1 and P23.2: longer lists with drawn valid lists of pairs, longest or
// not, and the same with one number changed.
func TestDrawnLists(t *testing.T) {
	r := rand.New(rand.NewSource(233))
	for round := range 1500 {
		kinds := 1 + r.Intn(1+round%12)
		a, b := some(r, 60, kinds), some(r, 60, kinds)
		best := chained(a, b)
		l := aligned(r, a, b)
		check(t, a, b, l, best)
		for k := range l {
			for _, d := range of(1, 0, 0, 1, -1, 0, 0, -1, 1, 1, -1, -1) {
				checkEither(t, a, b, put(l, k, api.Pair{I: l[k].I + d.I, J: l[k].J + d.J}), best)
			}
		}
	}
}

// P23.1 and P23.2: numbers that fewer bits would not tell from each other.
func TestWideNumbers(t *testing.T) {
	r := rand.New(rand.NewSource(234))
	for range 200 {
		a, b := make([]int, r.Intn(40)), make([]int, r.Intn(40))
		for _, l := range [][]int{a, b} {
			for i := range l {
				l[i] = wide[r.Intn(len(wide))]
			}
		}
		best := chained(a, b)
		for _, l := range append(found(a, b), late(a, b), aligned(r, a, b), nil) {
			check(t, a, b, l, best)
		}
	}
}

// P23.1: what lies in the memory before and behind a list is no part of it.
func TestMemoryAroundIsNoPart(t *testing.T) {
	whole := []int{1, 2, 1, 1, 2, 1}
	l := of(0, 2, 2, 3, 3, 5, 5, 6)
	for n := range len(whole) + 1 {
		for m := range len(whole) + 1 {
			for _, c := range [][2][]int{{whole[:n], whole[:m]}, {whole[n:], whole[:m]}, {whole[:n], whole[m:]}, {whole[n:], whole[m:]}} {
				best := chained(c[0], c[1])
				for k := range len(l) + 1 {
					checkEither(t, c[0], c[1], l[:k], best)
					checkEither(t, c[0], c[1], l[k:], best)
				}
			}
		}
	}
}

// P23.1 and P23.2: long lists whose canonical list is known.
func TestLongLists(t *testing.T) {
	const n = 2000
	l, equal := counted(n, 0), make([]int, n)
	whole := diagonal(n, 0, 0)
	checkTold(t, l, l, whole, whole, whole, whole)
	checkTold(t, l, l, whole[1:], whole[1:], whole[1:], whole)
	checkTold(t, l, l, whole[:n-1], whole[:n-1], whole[:n-1], whole)
	checkTold(t, l, counted(n, n), nil, nil, nil, nil)
	checkTold(t, l[1:], l[:n-1], diagonal(n-2, 0, 1), diagonal(n-2, 0, 1), diagonal(n-2, 0, 1), diagonal(n-2, 0, 1))
	checkTold(t, slices.Concat(l[n/2:], l[:n/2]), l, diagonal(n/2, n/2, 0), diagonal(n/2, n/2, 0), diagonal(n/2, n/2, 0), diagonal(n/2, 0, n/2))
	checkTold(t, equal[:n/2], equal, diagonal(n/2, 0, n/2), whole[:n/2], diagonal(n/2, 0, n/2), whole[:n/2])
	checkTold(t, equal, equal[:n/2], diagonal(n/2, n/2, 0), diagonal(n/2, n/2, 0), whole[:n/2], whole[:n/2])
	checkTold(t, equal, equal, diagonal(n/2, n/2, n/2), diagonal(n/2, n/2, 0), diagonal(n/2, 0, n/2), whole)
}

// P23.1 and P23.2 at the limit: lists that are much alike, and a long one
// beside a short one. Wrong in the last pair alone, too.
func TestAtTheLimit(t *testing.T) {
	long, equal, whole := counted(limit, 0), make([]int, limit), diagonal(limit, 0, 0)
	checkTold(t, long, slices.Clone(long), whole, whole, whole, whole)
	checkTold(t, equal, slices.Clone(equal), whole, whole, whole, whole)
	const part = limit / 2
	checkTold(t, equal[:part], equal, diagonal(part, 0, part), whole[:part], diagonal(part, 0, part), whole[:part])
	checkTold(t, equal, equal[:part], diagonal(part, part, 0), diagonal(part, part, 0), whole[:part], whole[:part])
	checkTold(t, equal, equal, diagonal(part, part, part), diagonal(part, part, 0), diagonal(part, 0, part), whole)
	checkTold(t, long, []int{limit - 1, 6, 8, 7}, of(6, 1, 7, 3), of(6, 1, 7, 3), of(6, 1, 7, 3), of(6, 1, 7, 3))
	checkTold(t, long, []int{limit - 1, 6, 8, 7}, of(limit-1, 0), of(limit-1, 0), of(limit-1, 0), of(6, 1, 7, 3))
	checkTold(t, []int{0, 7, 0}, equal, of(0, limit-2, 2, limit-1), of(0, 0, 2, 1), of(0, limit-2, 2, limit-1), of(0, 0, 2, 1))
	checkTold(t, equal, []int{0, 7, 0}, of(limit-2, 0, limit-1, 2), of(limit-2, 0, limit-1, 2), of(0, 0, 1, 2), of(0, 0, 1, 2))
	checkTold(t, equal, nil, nil, nil, nil, nil)
	checkTold(t, nil, equal, nil, nil, nil, nil)
	for _, p := range of(limit-1, limit, limit, limit-1, limit, limit, limit-1, limit-2, limit-2, limit-1, limit-1, -1, -1, limit-1) {
		checkWrong(t, equal, equal, put(whole, limit-1, p))
	}
}

// R1: no lists and no pairs make a call panic, also above the limit.
func TestNoPanic(t *testing.T) {
	ask := func(a, b []int, l []api.Pair) {
		for _, c := range calls() {
			c.ask(a, b, l)
		}
	}
	all := square(append([]int{2, 3, limit, limit + 1}, wide...)...)
	for _, a := range [][]int{nil, {4}, {4, 4, 4}} {
		for _, b := range [][]int{nil, {4, 4}, {5, 4}} {
			for _, p := range all {
				for _, q := range all {
					ask(a, b, []api.Pair{p, q})
				}
			}
			ask(a, b, all)
		}
	}
	equal, rising, whole := make([]int, limit+1), counted(limit+1, 0), diagonal(limit+1, 0, 0)
	for _, long := range [][]int{equal, rising} {
		for _, l := range [][]api.Pair{whole, whole[1:], whole[:limit], nil, of(limit, limit), of(limit+1, 0), make([]api.Pair, limit+1)} {
			ask(long, long, l)
			ask(long, long[:3], l)
			ask(long[:3], long, l)
			ask(long, nil, l)
			ask(nil, long, l)
		}
		ask(long, long[:3], whole[:3])
		ask(long[:3], long, whole[:3])
		ask(long, []int{0, limit}, of(limit, 1))
		ask([]int{0, limit}, long, of(1, limit))
	}
	ask([]int{1, 2}, []int{2, 1}, whole)
}

// samples are two lists with a list of pairs: a longest one, the canonical
// one, shorter ones, and such that are not valid.
func samples() []sample {
	return []sample{
		{[]int{1}, []int{1, 1}, of(0, 1)}, {[]int{1, 2}, []int{2, 1}, of(1, 0)}, {[]int{1, 2}, []int{2, 1}, of(0, 1)}, {[]int{1, 2}, []int{2, 1}, nil},
		{[]int{5, 5, 5, 5, 5}, []int{5, 5, 5}, of(2, 0, 3, 1, 4, 2)}, {[]int{5, 5, 5}, []int{5, 5, 5, 5, 5}, of(0, 2, 1, 3, 2, 4)}, {[]int{5, 5, 5, 5, 5}, []int{5, 5, 5}, of(4, 2)}, {[]int{1, 2, 1, 3, 1, 2, 2, 1}, []int{2, 1, 1, 3, 1, 2, 3}, of(1, 0, 2, 2, 3, 3, 4, 4, 6, 5)},
		{[]int{77, 1, 77}, []int{1, 77, 77}, of(1, 0, 2, 2)}, {[]int{1, 2, 3}, []int{1, 2, 3}, diagonal(3, 0, 0)}, {counted(40, 0), counted(40, 0), diagonal(40, 0, 0)}, {make([]int, 40), make([]int, 60), diagonal(40, 0, 20)},
		{nil, nil, nil}, {[]int{1}, nil, nil}, {nil, []int{1}, nil}, {[]int{1, 2}, []int{3}, nil},
		{[]int{1, 2}, []int{2, 1}, of(0, 0)}, {[]int{1, 1, 2}, []int{1, 1, 2}, of(0, 0, 1, 0)}, {[]int{1, 1, 2}, []int{1, 1, 2}, of(0, 0, 1, 1, 2, 3)}, {nil, nil, of(0, 0)},
	}
}

type sample struct {
	a, b []int
	l    []api.Pair
}

// fault tells what all functions answer otherwise for the sample, or nothing.
func (s sample) fault() string {
	if !good(s.a, s.b, s.l) {
		return wrongFault(s.a, s.b, s.l)
	}
	return fault(s.a, s.b, s.l, chained(s.a, s.b))
}

// R4: no call modifies an argument or its spare capacity, and no change of a
// result changes one.
func TestArgumentsStay(t *testing.T) {
	spare := api.Pair{I: 77, J: 78}
	for _, s := range samples() {
		for _, c := range calls() {
			a, b, l := roomy(s.a, 77), roomy(s.b, 77), roomy(s.l, spare)
			z, _ := c.ask(a, b, l)
			if !stayed(a, s.a, 77) || !stayed(b, s.b, 77) || !stayed(l, s.l, spare) {
				t.Fatalf("R4: %s modified %d, %d or %v: %d, %d, %v", c.name, s.a, s.b, s.l, a[:cap(a)], b[:cap(b)], l[:cap(l)])
			}
			fill(z, api.Pair{I: -7, J: -7})
			fill(append(z, api.Pair{I: -8, J: -8}), api.Pair{I: -8, J: -8})
			if !stayed(a, s.a, 77) || !stayed(b, s.b, 77) || !stayed(l, s.l, spare) {
				t.Fatalf("R4: the result of %s shares memory with %d, %d or %v: %d, %d, %v", c.name, s.a, s.b, s.l, a[:cap(a)], b[:cap(b)], l[:cap(l)])
			}
		}
		if f := s.fault(); f != "" {
			t.Errorf("%s: %s", told(s.a, s.b), f)
		}
	}
}

// R4 and R5: results, with their spare capacity, are new memory each time:
// whoever changes one, or an argument, changes no other result.
func TestResultsAreNew(t *testing.T) {
	for _, s := range samples() {
		for _, c := range calls() {
			a, b, l := slices.Clone(s.a), slices.Clone(s.b), slices.Clone(s.l)
			z, e := c.ask(a, b, l)
			want := slices.Clone(z)
			second, _ := c.ask(a, b, l)
			for _, with := range []int{-7, -8} {
				fill(z, api.Pair{I: with, J: with})
				z = append(z, api.Pair{I: with, J: with})
			}
			third, again := c.ask(a, b, l)
			fill(a, -9)
			fill(b, -10)
			fill(l, api.Pair{I: -11, J: -11})
			if e != again || !slices.Equal(second, want) || !slices.Equal(third, want) {
				t.Errorf("R4: %s of %d, %d and %v: %v, error %d, then %v and %v, error %d", c.name, s.a, s.b, s.l, want, e, second, third, again)
			}
		}
		// What one function answers is no other one's memory either.
		left, _ := canon.Left(s.a, s.b, s.l)
		top, _ := canon.Top(s.a, s.b, s.l)
		best, _ := canon.Of(s.a, s.b, s.l)
		wantTop, wantBest := slices.Clone(top), slices.Clone(best)
		fill(left, api.Pair{I: -7, J: -7})
		if !slices.Equal(top, wantTop) || !slices.Equal(best, wantBest) {
			t.Errorf("R4: the results for %d, %d and %v share memory", s.a, s.b, s.l)
		}
		fill(top, api.Pair{I: -8, J: -8})
		if !slices.Equal(best, wantBest) {
			t.Errorf("R4: the results for %d, %d and %v share memory", s.a, s.b, s.l)
		}
	}
}

// R4: a nil list and an empty one are the same, as any argument.
func TestNilAndEmpty(t *testing.T) {
	for _, c := range calls() {
		for _, a := range [][]int{nil, {}} {
			for _, b := range [][]int{nil, {}} {
				for _, none := range [][]api.Pair{nil, {}} {
					for _, lists := range [][2][]int{{a, b}, {a, {1}}, {{1}, b}, {{1}, {2}}} {
						if z, e := c.ask(lists[0], lists[1], none); e != api.OK || len(z) != 0 {
							t.Errorf("R4: %s of %d, %d and no pairs: %v, error %d", c.name, lists[0], lists[1], z, e)
						}
					}
				}
			}
		}
	}
	for _, none := range [][]api.Pair{nil, {}} {
		if z, e := canon.Of([]int{1}, []int{1}, none); e != api.ENONE || z != nil {
			t.Errorf("P23.1: Of no pairs: %v, error %d", z, e)
		}
	}
}

// R5: answers hang on the arguments alone: the lists may be one piece of
// memory or several, and what was asked before does not matter.
func TestAnswersStay(t *testing.T) {
	whole := []int{1, 1, 2, 1, 1, 2}
	l := of(0, 0, 1, 1, 2, 2)
	for range 4 {
		for _, c := range [][2][]int{{whole, whole}, {whole[:3], whole[3:]}, {whole[3:], whole[:3]}, {whole, whole[3:]}, {whole[:3], whole}, {whole[1:], whole[3:]}, {nil, whole}, {whole, nil}, {slices.Clone(whole), whole}} {
			for n := range len(l) + 1 {
				checkEither(t, c[0], c[1], l[:n], chained(c[0], c[1]))
			}
		}
	}
}

// R5: many goroutines at once, with the same lists and with lists of their
// own.
func TestManyAtOnce(t *testing.T) {
	shared := rand.New(rand.NewSource(235))
	for round := range 30 {
		a, b := some(shared, 60, 5), some(shared, 60, 5)
		all := samples()
		for _, l := range append(found(a, b), late(a, b), aligned(shared, a, b), of(-1, 0)) {
			all = append(all, sample{a, b, l})
		}
		var group sync.WaitGroup
		start := make(chan bool)
		faults := make([]string, 8)
		for g := range faults {
			group.Go(func() {
				r := rand.New(rand.NewSource(int64(100*round + g)))
				<-start
				for k := range all {
					c, d := some(r, 20, 3), some(r, 20, 3)
					for _, s := range []sample{all[(k+g)%len(all)], {c, d, aligned(r, c, d)}, {c, d, late(c, d)}} {
						if f := s.fault(); f != "" {
							faults[g] = f
						}
					}
				}
			})
		}
		close(start)
		group.Wait()
		for g, f := range faults {
			if f != "" {
				t.Fatalf("R5: goroutine %d: %s", g, f)
			}
		}
	}
}
