package croch_test

import (
	"fmt"
	"math"
	"math/rand"
	"slices"
	"sync"
	"testing"

	"tatting/api"
	"tatting/croch"
	"tatting/grid"
	"tatting/hyyro"
	"tatting/mask"
	"tatting/vec"
)

const (
	lowest  = math.MinInt
	highest = math.MaxInt
	limit   = api.MaxTokens
	ones    = math.MaxUint64
	top     = 1 << 63
)

// lengths are numbers of bits about the ends of words.
var lengths = []int{1, 2, 62, 63, 64, 65, 66, 126, 127, 128, 129, 191, 192, 193, 257}

// wide has numbers at the ends of the range of an int, about 0 and where fewer
// bits end.
var wide = []int{lowest, lowest + 1, -1 << 32, -1<<31 - 1, -7, -1, 0, 1, 1 << 31, 1<<32 + 1, highest - 1, highest}

// bit tells bit j of x, which goes on with zero words.
func bit(x []uint64, j int) bool {
	return j/64 < len(x) && x[j/64]>>(j%64)&1 == 1
}

// pack returns the words of m bits, and sets those that is tells.
func pack(m int, is func(int) bool) []uint64 {
	x := make([]uint64, (m+63)/64)
	for j := range m {
		if is(j) {
			x[j/64] |= 1 << (j % 64)
		}
	}
	return x
}

// without returns m bits that are 1, but those at the indices.
func without(m int, indices ...int) []uint64 {
	return pack(m, func(j int) bool { return !slices.Contains(indices, j) })
}

// formula follows the words of P21.1, with the functions of package vec.
func formula(v, u []uint64, m int) []uint64 {
	v, u = vec.Fit(v, m), vec.Fit(u, m)
	return vec.Fit(vec.Or(vec.Add(v, vec.And(v, u)), vec.And(v, vec.Not(u, m))), m)
}

// moved does with m bits what a row does, one bit after the other: a bit that
// is 0 goes down to the lowest bit of u since the preceding 0, and behind the
// last 0 there is one more.
func moved(v, u []uint64, m int) []uint64 {
	hit := false
	return pack(min(max(m, 0), limit), func(j int) bool {
		if !bit(v, j) {
			was := hit
			hit = false
			return was
		}
		first := bit(u, j) && !hit
		hit = hit || first
		return !first
	})
}

// defined follows the definition of L in chapter 8.
func defined(a, b []int) int {
	if len(a) == 0 || len(b) == 0 {
		return 0
	}
	if a[0] == b[0] {
		return 1 + defined(a[1:], b[1:])
	}
	return max(defined(a[1:], b), defined(a, b[1:]))
}

// byDefinition returns L of all beginnings of a and b.
func byDefinition(a, b []int) [][]int {
	t := make([][]int, len(a)+1)
	for i := range t {
		for j := range len(b) + 1 {
			t[i] = append(t[i], defined(a[:i], b[:j]))
		}
	}
	return t
}

// common returns L of all beginnings of a and b, by the textbook.
func common(a, b []int) [][]int {
	t := [][]int{make([]int, len(b)+1)}
	for i, x := range a {
		next := make([]int, len(b)+1)
		for j, y := range b {
			if next[j+1] = max(next[j], t[i][j+1]); x == y {
				next[j+1] = t[i][j] + 1
			}
		}
		t = append(t, next)
	}
	return t
}

// rowFault tells what Row answers otherwise than it should, or nothing.
func rowFault(v, u []uint64, m int) string {
	got := croch.Row(v, u, m)
	if want := formula(v, u, m); !slices.Equal(got, want) {
		return fmt.Sprintf("P21.1: Row at width %d: %x, not %x", m, got, want)
	}
	if want := moved(v, u, m); !slices.Equal(got, want) {
		return fmt.Sprintf("P21.1: Row at width %d: %x, not %x, bit by bit", m, got, want)
	}
	if want := hyyro.Row(v, u, m); !slices.Equal(got, want) {
		return fmt.Sprintf("P21.2: Row at width %d: %x, not %x, as hyyro has it", m, got, want)
	}
	return ""
}

// checkRow holds Row against the formula, bit by bit, and against hyyro's.
func checkRow(t *testing.T, v, u []uint64, m int) {
	t.Helper()
	if f := rowFault(v, u, m); f != "" {
		t.Fatalf("%s: %x and %x", f, v, u)
	}
}

// checkRowTold holds Row against a row that is told too.
func checkRowTold(t *testing.T, v, u []uint64, m int, want []uint64) {
	t.Helper()
	if got := croch.Row(v, u, m); !slices.Equal(got, want) {
		t.Fatalf("P21.1: Row(%x, %x, %d): %x, not %x", v, u, m, got, want)
	}
	checkRow(t, v, u, m)
}

// chained tells what in rows is not Row of the preceding row, or nothing.
func chained(a, b []int, rows [][]uint64) string {
	if len(rows) != len(a)+1 {
		return fmt.Sprintf("P21.1: %d rows", len(rows))
	}
	if !slices.Equal(rows[0], vec.Ones(len(b))) {
		return fmt.Sprintf("P21.1: the first row: %x", rows[0])
	}
	masks := mask.New(b)
	for i, x := range a {
		if want := croch.Row(rows[i], masks.Of(x), len(b)); !slices.Equal(rows[i+1], want) {
			return fmt.Sprintf("P21.1: row %d: %x, not %x", i+1, rows[i+1], want)
		}
	}
	return ""
}

// likeHyyro tells where rows and Len are otherwise than those of hyyro, or
// nothing.
func likeHyyro(a, b []int, rows [][]uint64) string {
	want := hyyro.Rows(a, b)
	if len(rows) != len(want) {
		return fmt.Sprintf("P21.2: %d rows, not %d", len(rows), len(want))
	}
	for i, row := range rows {
		if !slices.Equal(row, want[i]) {
			return fmt.Sprintf("P21.2: row %d: %x, not %x, as hyyro has it", i, row, want[i])
		}
	}
	if got, want := croch.Len(a, b), hyyro.Len(a, b); got != want {
		return fmt.Sprintf("P21.1: Len: %d, not %d, as hyyro has it", got, want)
	}
	return ""
}

// stepped tells what in rows is not as P20.2 says, which holds for these rows
// by P21.2, for a table of L, or nothing.
func stepped(l [][]int, rows [][]uint64) string {
	for i, row := range rows {
		m := len(l[i]) - 1
		if len(row) != (m+63)/64 {
			return fmt.Sprintf("P21.1: row %d: %d words", i, len(row))
		}
		for j := range 64 * len(row) {
			if want := j < m && l[i][j+1] == l[i][j]; bit(row, j) != want {
				return fmt.Sprintf("P21.2: row %d, bit %d: not %t", i, j, want)
			}
		}
	}
	return ""
}

// fault tells what Rows and Len answer otherwise than they should, for a table
// of L, or nothing.
func fault(a, b []int, l [][]int) string {
	rows := croch.Rows(a, b)
	if f := chained(a, b, rows); f != "" {
		return f
	}
	if f := likeHyyro(a, b, rows); f != "" {
		return f
	}
	if f := stepped(l, rows); f != "" {
		return f
	}
	got := croch.Len(a, b)
	if want := l[len(a)][len(b)]; got != want {
		return fmt.Sprintf("P21.1: Len: %d, not %d", got, want)
	}
	if want := grid.Len(a, b); got != want {
		return fmt.Sprintf("P21.1: Len: %d, not %d, as grid has it", got, want)
	}
	return ""
}

// told writes two lists, unless they are long.
func told(a, b []int) string {
	if len(a)+len(b) > 200 {
		return fmt.Sprintf("%d and %d numbers", len(a), len(b))
	}
	return fmt.Sprintf("%d and %d", a, b)
}

// checkWith holds Rows and Len against a table of L.
func checkWith(t *testing.T, a, b []int, l [][]int) {
	t.Helper()
	if f := fault(a, b, l); f != "" {
		t.Fatalf("%s: %s", told(a, b), f)
	}
}

// check holds both against a table that is worked out here.
func check(t *testing.T, a, b []int) {
	t.Helper()
	checkWith(t, a, b, common(a, b))
}

// checkLen holds Len against a number that is told.
func checkLen(t *testing.T, a, b []int, want int) {
	t.Helper()
	if got := croch.Len(a, b); got != want {
		t.Fatalf("P21.1: Len: %s: %d, not %d", told(a, b), got, want)
	}
	if other := hyyro.Len(a, b); other != want {
		t.Fatalf("P21.1: Len of hyyro: %s: %d, not %d", told(a, b), other, want)
	}
}

// lists calls use with every list of up to length of the given elements.
func lists[E any](elements []E, length int, use func([]E)) {
	last := [][]E{nil}
	use(nil)
	for range length {
		var next [][]E
		for _, l := range last {
			for _, e := range elements {
				next = append(next, append(slices.Clone(l), e))
			}
		}
		for _, l := range next {
			use(l)
		}
		last = next
	}
}

// two calls use with every two lists of up to length of the given elements.
func two[E any](elements []E, length int, use func(a, b []E)) {
	lists(elements, length, func(a []E) {
		lists(elements, length, func(b []E) {
			use(a, b)
		})
	})
}

// some returns up to length numbers out of few, about 0.
func some(r *rand.Rand, length, kinds int) []int {
	return exactly(r, r.Intn(length+1), kinds)
}

// exactly returns n numbers out of few, about 0.
func exactly(r *rand.Rand, n, kinds int) []int {
	l := make([]int, n)
	for i := range l {
		l[i] = r.Intn(kinds) - kinds/2
	}
	return l
}

// someWords returns up to n words: drawn ones, and such that carry far.
func someWords(r *rand.Rand, n int) []uint64 {
	x := make([]uint64, r.Intn(n+1))
	for k := range x {
		switch r.Intn(6) {
		case 0:
			x[k] = ones
		case 1:
			x[k] = 0
		case 2:
			x[k] = 1 << r.Intn(64)
		case 3:
			x[k] = ^(1 << r.Intn(64))
		default:
			x[k] = r.Uint64()
		}
	}
	return x
}

// counted returns n numbers from first on.
func counted(n, first int) []int {
	l := make([]int, n)
	for i := range l {
		l[i] = first + i
	}
	return l
}

// reversed returns a copy from its end to its beginning.
func reversed(l []int) []int {
	l = slices.Clone(l)
	slices.Reverse(l)
	return l
}

// fill overwrites a list and its spare capacity.
func fill[E any](l []E, with E) {
	l = l[:cap(l)]
	for i := range l {
		l[i] = with
	}
}

// roomy returns a copy of l with spare capacity, which holds a number of its
// own.
func roomy[E int | uint64](l []E) []E {
	whole := slices.Repeat([]E{77}, len(l)+5)
	copy(whole, l)
	return whole[:len(l)]
}

// stayed reports whether a list that roomy made is as it was, with its spare
// capacity.
func stayed[E int | uint64](l, was []E) bool {
	return slices.Equal(l[:cap(l)], roomy(was)[:len(was)+5])
}

// P21.1: the example of the chapter, and what goes with it.
func TestExample(t *testing.T) {
	if got := croch.Row([]uint64{3}, []uint64{2}, 2); !slices.Equal(got, []uint64{1}) {
		t.Errorf("P21.1: Row(3, 2, 2): %x", got)
	}
	rows := croch.Rows([]int{7}, []int{5, 7})
	if len(rows) != 2 || !slices.Equal(rows[0], []uint64{3}) || !slices.Equal(rows[1], []uint64{1}) {
		t.Errorf("P21.1: Rows(7, 5 7): %x", rows)
	}
	checkLen(t, []int{7}, []int{5, 7}, 1)
	checkLen(t, []int{1, 2, 3, 4}, []int{2, 9, 4, 3}, 2)
	if n := croch.Steps(1, 2); n != 1 {
		t.Errorf("P21.1: Steps(1, 2): %d", n)
	}
}

// P21.1: rows that are worked out by hand.
func TestRow(t *testing.T) {
	for _, c := range []struct {
		v, u []uint64
		m    int
		want []uint64
	}{
		{nil, nil, 0, nil}, {[]uint64{ones}, []uint64{ones}, 0, nil}, {[]uint64{ones}, []uint64{ones}, -1, nil}, {[]uint64{ones}, []uint64{ones}, lowest, nil},
		{nil, nil, 1, []uint64{0}}, {nil, []uint64{ones}, 65, []uint64{0, 0}}, {[]uint64{1}, nil, 1, []uint64{1}}, {[]uint64{1}, []uint64{1}, 1, []uint64{0}}, {[]uint64{0}, []uint64{1}, 1, []uint64{0}},
		{[]uint64{3}, []uint64{1}, 2, []uint64{2}}, {[]uint64{3}, []uint64{3}, 2, []uint64{2}}, {[]uint64{1}, []uint64{1}, 2, []uint64{2}}, {[]uint64{1}, []uint64{2}, 2, []uint64{1}}, {[]uint64{2}, []uint64{1}, 2, []uint64{2}},
		{[]uint64{0b1011}, []uint64{0b1010}, 4, []uint64{0b0101}}, {[]uint64{0b110111}, []uint64{0b100110}, 6, []uint64{0b011101}}, {[]uint64{0b110111}, []uint64{0b001000}, 6, []uint64{0b110111}},

		// Bits beyond the width count for nothing, and none is left.
		{[]uint64{ones}, []uint64{ones}, 1, []uint64{0}}, {[]uint64{ones}, []uint64{2}, 1, []uint64{1}}, {[]uint64{ones, ones}, []uint64{1, 1}, 63, []uint64{ones>>1 - 1}}, {[]uint64{top | 1}, []uint64{top | 1}, 63, []uint64{2}}, {[]uint64{top | 3}, []uint64{top | 1}, 63, []uint64{6}},
		{[]uint64{top >> 1}, []uint64{ones}, 63, []uint64{0}}, {[]uint64{top >> 1}, []uint64{ones}, 64, []uint64{top}}, {[]uint64{top}, []uint64{ones}, 64, []uint64{0}}, {[]uint64{top}, []uint64{ones}, 65, []uint64{0, 1}}, {[]uint64{top, 1}, []uint64{ones}, 65, []uint64{0, 1}}, {[]uint64{top, 1}, []uint64{0, 1}, 65, []uint64{top, 0}},

		// A carry that goes through whole words.
		{[]uint64{ones, ones}, []uint64{1}, 64, []uint64{ones - 1}}, {[]uint64{ones, ones}, []uint64{1}, 65, []uint64{ones - 1, 1}}, {[]uint64{ones, ones, ones}, []uint64{1}, 192, []uint64{ones - 1, ones, ones}}, {[]uint64{ones, ones, ones, 0}, []uint64{1}, 193, []uint64{ones - 1, ones, ones, 1}}, {[]uint64{ones, ones, ones - 1}, []uint64{top}, 192, []uint64{ones >> 1, ones, ones}},
		{[]uint64{ones, ones, ones}, []uint64{0, 1}, 192, []uint64{ones, ones - 1, ones}}, {[]uint64{ones, ones, ones}, []uint64{ones, ones, ones}, 192, []uint64{ones - 1, ones, ones}},

		// Vectors that are too short or too long.
		{[]uint64{ones}, []uint64{1}, 129, []uint64{ones - 1, 1, 0}}, {[]uint64{ones}, []uint64{1, ones, ones}, 129, []uint64{ones - 1, 1, 0}}, {[]uint64{ones, ones, ones}, []uint64{1}, 129, []uint64{ones - 1, ones, 1}}, {[]uint64{5, 7, 9, 11}, []uint64{4, 7, 9, 11}, 3, []uint64{1}}, {[]uint64{ones, 0, ones}, nil, 129, []uint64{ones, 0, 1}}, {nil, []uint64{ones, ones, ones}, 129, []uint64{0, 0, 0}},
	} {
		checkRowTold(t, c.v, c.u, c.m, c.want)
	}
}

// P21.1: a 0 at q goes down to a 1 of u at p, through all that is between. If
// q is not above p, there is a 0 at p more.
func TestRowMovesOneBit(t *testing.T) {
	for _, m := range lengths {
		for q := range m {
			v := without(m, q)
			for p := range m {
				u := pack(m, func(j int) bool { return j == p })
				want := without(m, p, q)
				if p < q {
					want = without(m, p)
				}
				if got := croch.Row(v, u, m); !slices.Equal(got, want) {
					t.Fatalf("P21.1: Row(%x, %x, %d): %x, not %x", v, u, m, got, want)
				}
			}
		}
		for p := range m {
			u := pack(m, func(j int) bool { return j >= p })
			checkRowTold(t, without(m), u, m, without(m, p))
		}
	}
}

// P21.1 and P21.2: short vectors of every length, and every width about the
// ends of words.
func TestRowWidths(t *testing.T) {
	widths := append([]int{lowest, lowest + 1, -1 << 32, -limit, -65, -64, -63, -1, 0}, lengths...)
	two([]uint64{0, 1, top, ones >> 1, ones - 1, ones, 0x6969969669960f3d}, 2, func(v, u []uint64) {
		for _, m := range widths {
			checkRow(t, v, u, m)
		}
	})
	two([]uint64{0, ones}, 4, func(v, u []uint64) {
		for _, m := range []int{-1, 0, 1, 63, 64, 65, 127, 128, 129, 191, 192, 193, 255, 256, 257, 300} {
			checkRow(t, v, u, m)
			if len(v) > 0 && len(u) > 0 {
				checkRow(t, v, append([]uint64{top}, u[1:]...), m)
				checkRow(t, append([]uint64{ones - 4}, v[1:]...), u, m)
			}
		}
	})
}

// P21.1 and P21.2: widths at the limit and above it, where they count as
// MaxTokens.
func TestRowAtTheLimit(t *testing.T) {
	long := func(n int, w uint64) []uint64 { return slices.Repeat([]uint64{w}, n) }
	vectors := [][]uint64{nil, {}, {1}, {ones, ones - 1}, long(limit/64-1, ones), long(limit/64, ones), long(limit/64+1, ones), long(limit/64, 0x8001800180018001)}
	for _, m := range []int{limit - 65, limit - 64, limit - 63, limit - 1, limit, limit + 1, limit + 63, limit + 64, 1 << 32, 1<<32 + 1, highest - 62, highest} {
		for _, v := range vectors {
			for _, u := range vectors {
				got := croch.Row(v, u, m)
				if !slices.Equal(got, formula(v, u, m)) {
					t.Fatalf("P21.1: Row at width %d of %d and %d words", m, len(v), len(u))
				}
				if !slices.Equal(got, hyyro.Row(v, u, m)) {
					t.Fatalf("P21.2: Row at width %d of %d and %d words", m, len(v), len(u))
				}
			}
		}
	}
	for _, m := range []int{limit - 1, limit, limit + 1, highest} {
		checkRow(t, vectors[6], vectors[2], m)
		got := croch.Row(vectors[6], vectors[2], m)
		if len(got) != limit/64 || got[0] != ones-1 || vec.Count(got, limit) != min(m, limit)-1 {
			t.Errorf("P21.1: Row at width %d: %d words", m, len(got))
		}
	}
}

// P21.1 and P21.2: longer vectors, of any lengths and widths.
func TestRowOfManyVectors(t *testing.T) {
	r := rand.New(rand.NewSource(210))
	for range 20000 {
		v, u := someWords(r, 6), someWords(r, 6)
		checkRow(t, v, u, r.Intn(330)-5)
		checkRow(t, v, u, 64*(1+r.Intn(5))+r.Intn(3)-1)
	}
}

// P21.1 and P21.2: empty lists and nil, and lists of one number.
func TestEdges(t *testing.T) {
	for _, none := range [][]int{nil, {}, make([]int, 0, 100)} {
		for _, other := range [][]int{nil, {}} {
			if rows := croch.Rows(none, other); len(rows) != 1 || len(rows[0]) != 0 {
				t.Errorf("P21.1: Rows of empty lists: %x", rows)
			}
			check(t, none, other)
		}
		for _, n := range lengths {
			l := counted(n, -3)
			rows := croch.Rows(none, l)
			if len(rows) != 1 || !slices.Equal(rows[0], vec.Ones(n)) {
				t.Errorf("P21.1: Rows of none and %d numbers: %x", n, rows)
			}
			if rows := croch.Rows(l, none); len(rows) != n+1 || slices.ContainsFunc(rows, func(row []uint64) bool { return len(row) != 0 }) {
				t.Errorf("P21.1: Rows of %d numbers and none: %x", n, rows)
			}
			check(t, none, l)
			check(t, l, none)
			checkLen(t, none, l, 0)
			checkLen(t, l, none, 0)
		}
	}
	for _, x := range wide {
		if rows := croch.Rows([]int{x}, []int{x}); len(rows) != 2 || !slices.Equal(rows[0], []uint64{1}) || !slices.Equal(rows[1], []uint64{0}) {
			t.Errorf("P21.1: Rows(%d, %d): %x", x, x, rows)
		}
		if rows := croch.Rows([]int{x}, []int{^x}); len(rows) != 2 || !slices.Equal(rows[0], []uint64{1}) || !slices.Equal(rows[1], []uint64{1}) {
			t.Errorf("P21.1: Rows(%d, %d): %x", x, ^x, rows)
		}
		checkLen(t, []int{x}, []int{x}, 1)
		checkLen(t, []int{x}, []int{^x}, 0)
	}
}

// P21.1 and P21.2: the same list twice, nothing alike, one number many times,
// and a number that the other list does not have, at lengths about the ends of
// words.
func TestLengths(t *testing.T) {
	for _, n := range lengths {
		l, zeros := counted(n, -2), make([]int, n)
		rows := croch.Rows(l, l)
		equal := croch.Rows(zeros, zeros)
		for i := range n + 1 {
			want := pack(n, func(j int) bool { return j >= i })
			if !slices.Equal(rows[i], want) || !slices.Equal(equal[i], want) {
				t.Fatalf("P21.2: %d numbers twice, row %d: %x, %x", n, i, rows[i], equal[i])
			}
		}
		for i, row := range croch.Rows(l, counted(n, n)) {
			if !slices.Equal(row, vec.Ones(n)) {
				t.Fatalf("P21.2: %d numbers, nothing alike, row %d: %x", n, i, row)
			}
		}
		checkLen(t, l, l, n)
		checkLen(t, zeros, zeros, n)
		checkLen(t, l, counted(n, n), 0)
		checkLen(t, l, reversed(l), 1)
		for _, other := range [][]int{l, zeros, reversed(l), counted(n, n), {-2}, {n - 3}, {99, n - 3, 99}, slices.Concat(l[n/2:], l[:n/2]), slices.Concat([]int{1000}, l, []int{1000, -3}), slices.Repeat([]int{0, 1, 77}, 9)} {
			check(t, other, l)
			check(t, l, other)
			check(t, other, zeros)
		}
	}
}

// P21.1: a number that the second list does not have leaves a row as it is.
func TestMissingNumber(t *testing.T) {
	r := rand.New(rand.NewSource(211))
	for _, m := range lengths {
		a, b := exactly(r, 6, 3), exactly(r, m, 3)
		for i := range a {
			a[i] *= 1 + i%2*99
		}
		rows := croch.Rows(a, b)
		for i, x := range a {
			if !slices.Contains(b, x) && !slices.Equal(rows[i], rows[i+1]) {
				t.Fatalf("P21.1: %d and %d: rows %d and %d: %x, %x", a, b, i, i+1, rows[i], rows[i+1])
			}
		}
		check(t, a, b)
	}
}

// P21.2: the carry goes through whole words: the one number in common moves
// down to an earlier index, over numbers that a does not have.
func TestCarryThroughWords(t *testing.T) {
	for _, m := range []int{128, 129, 192, 193, 320, 321} {
		b := make([]int, m)
		for j := range b {
			b[j] = 100 + j
		}
		b[1], b[m-1] = 1, 2
		rows := croch.Rows([]int{2, 1, 2}, b)
		for i, want := range [][]uint64{vec.Ones(m), without(m, m-1), without(m, 1), without(m, 1, m-1)} {
			if !slices.Equal(rows[i], want) {
				t.Errorf("P21.2: %d numbers, row %d: %x, not %x", m, i, rows[i], want)
			}
		}
		check(t, []int{2, 1, 2}, b)
		check(t, []int{2, 1, 1, 2, 2}, b)
	}
}

// P21.1 and P21.2: every two short lists, by the definition of L.
func TestAllShortLists(t *testing.T) {
	two([]int{-3, 0, 5}, 4, func(a, b []int) {
		checkWith(t, a, b, byDefinition(a, b))
	})
	two([]int{1, 2}, 6, func(a, b []int) {
		check(t, a, b)
	})
	// The end of a word among the numbers of a short list.
	for ahead := 61; ahead < 66; ahead++ {
		two([]int{1, 2}, 4, func(a, b []int) {
			check(t, a, slices.Concat(slices.Repeat([]int{7}, ahead), b))
		})
		lists([]int{1, 7}, 4, func(a []int) {
			check(t, a, slices.Concat(slices.Repeat([]int{7}, ahead), a))
			check(t, reversed(a), slices.Concat(slices.Repeat([]int{7}, ahead), a))
		})
	}
}

// P21.1 and P21.2: longer lists of few and of many numbers.
func TestManyLists(t *testing.T) {
	r := rand.New(rand.NewSource(212))
	for round := range 1500 {
		kinds := 1 + r.Intn(1+round%60)
		a, b := some(r, 40, kinds), some(r, 40+round%200, kinds)
		if round%3 == 0 {
			a, b = b, a
		}
		check(t, a, b)
	}
	for _, m := range lengths {
		for kinds := 1; kinds < 12; kinds++ {
			a, b := some(r, 150, kinds), exactly(r, m, kinds)
			check(t, a, b)
		}
	}
}

// P21.1: L does not change if both lists are exchanged or both are reversed,
// nor if one has numbers at its ends that the other does not have.
func TestLenOfOtherLists(t *testing.T) {
	r := rand.New(rand.NewSource(213))
	for round := range 300 {
		kinds := 1 + r.Intn(1+round%30)
		a, b := some(r, 300, kinds), some(r, 300, kinds)
		n := grid.Len(a, b)
		checkLen(t, a, b, n)
		checkLen(t, b, a, n)
		checkLen(t, reversed(a), reversed(b), n)
		checkLen(t, slices.Concat([]int{900, 901}, a), slices.Concat(b, []int{-900}), n)
		checkLen(t, a, slices.Concat(counted(r.Intn(130), 1000), b), n)
		checkLen(t, slices.Concat([]int{50}, a), slices.Concat([]int{50}, b), n+1)
	}
}

// P21.1: numbers that fewer bits would not tell from each other.
func TestWideNumbers(t *testing.T) {
	for _, c := range [][2]int{{0, 1 << 32}, {0, 256}, {0, 1 << 16}, {lowest, 0}, {lowest, highest}, {1, 1 + 1<<32}, {-1, 1<<32 - 1}, {-1, 1}, {1 << 31, -1 << 31}, {1 << 52, 1<<52 + 1}, {1 << 53, 1<<53 + 1}, {1 << 62, 1<<62 + 1}} {
		checkLen(t, c[:1], c[1:], 0)
		checkLen(t, []int{c[0], c[1]}, []int{c[1], c[0]}, 1)
		checkLen(t, c[:], slices.Clone(c[:]), 2)
		check(t, slices.Repeat(c[:], 3), slices.Repeat([]int{c[1], c[0]}, 40))
	}
	r := rand.New(rand.NewSource(214))
	for range 300 {
		a, b := make([]int, r.Intn(25)), make([]int, r.Intn(90))
		for _, l := range [][]int{a, b} {
			for i := range l {
				l[i] = wide[r.Intn(len(wide))]
			}
		}
		check(t, a, b)
	}
}

// P21.1: what lies in the memory before and behind a list is no part of it.
func TestMemoryAroundIsNoPart(t *testing.T) {
	whole := []int{1, 2, 3, 1, 2, 3, 1, 2, 3}
	words := []uint64{ones, 1, top, ones - 1, 5, ones}
	for n := range whole {
		for m := range whole {
			check(t, whole[:n], whole[:m])
			check(t, whole[n:], whole[:m])
			check(t, whole[n:], whole[m:])
		}
	}
	for n := range words {
		for m := range words {
			for _, width := range []int{1, 64, 65, 129, 200} {
				checkRow(t, words[:n], words[:m], width)
				checkRow(t, words[n:], words[:m], width)
				checkRow(t, words[n:n+1], words[m:], width)
			}
		}
	}
}

// P21.1 and P21.2 at the limit: a long list beside a short one.
func TestAtTheLimit(t *testing.T) {
	long, equal := counted(limit, 0), make([]int, limit)
	last := reversed(counted(64, limit-64))
	for _, c := range []struct {
		a, b []int
		want int
	}{
		{long, nil, 0}, {nil, equal, 0}, {long, []int{-1, limit}, 0}, {[]int{1, 2}, equal, 0}, {[]int{0, 1, 0}, equal, 2}, {equal, []int{0, 0, 0}, 3},
		{long, []int{limit - 1, 6, 8, 7}, 2}, {[]int{limit - 1, 6, 8, 7}, long, 2}, {long, counted(1000, limit-1000), 1000}, {counted(1000, limit-1000), long, 1000}, {long, last, 1}, {last, long, 1}, {equal, make([]int, 129), 129}, {make([]int, 129), equal, 129},
	} {
		checkLen(t, c.a, c.b, c.want)
	}
	for _, c := range [][2][]int{{{limit - 1, 6, 8, 6, 7}, long}, {{0, 1, 0}, equal}, {long, {limit - 1, 6, 8, 7}}} {
		if f := likeHyyro(c[0], c[1], croch.Rows(c[0], c[1])); f != "" {
			t.Fatalf("at the limit: %s: %.200s", told(c[0], c[1]), f)
		}
	}
	rows := croch.Rows([]int{limit - 1, 6, 8, 6, 7}, long)
	for i, zeros := range [][]int{nil, {limit - 1}, {6}, {6, 8}, {6, 8}, {6, 7}} {
		if len(rows[i]) != limit/64 || vec.Count(rows[i], limit) != limit-len(zeros) {
			t.Fatalf("P21.2: at the limit: row %d: %d words", i, len(rows[i]))
		}
		for _, j := range zeros {
			if bit(rows[i], j) {
				t.Errorf("P21.2: at the limit: row %d, bit %d", i, j)
			}
		}
	}
	rows = croch.Rows(long, []int{limit - 1, 6, 8, 7})
	if len(rows) != limit+1 {
		t.Fatalf("P21.1: at the limit: %d rows", len(rows))
	}
	for i, row := range rows {
		want := uint64(0b1111)
		switch {
		case i == limit:
			want = 0b1010
		case i > 8:
			want = 0b1001
		case i > 7:
			want = 0b0101
		case i > 6:
			want = 0b1101
		}
		if len(row) != 1 || row[0] != want {
			t.Fatalf("P21.2: at the limit: row %d: %b, not %b", i, row, want)
		}
	}
	if rows := croch.Rows(equal, nil); len(rows) != limit+1 || len(rows[limit]) != 0 {
		t.Errorf("P21.1: at the limit, and none: %d rows", len(rows))
	}
}

// P21.1: steps are n times the words of m bits, within the range alone.
func TestSteps(t *testing.T) {
	for _, c := range []struct {
		n, m int
		want int64
	}{
		{0, 0, 0}, {0, 1, 0}, {1, 0, 0}, {1, 1, 1}, {7, 63, 7}, {7, 64, 7}, {7, 65, 14}, {7, 128, 14}, {7, 129, 21}, {limit, 0, 0}, {0, limit, 0}, {limit, 1, limit}, {limit, 65, 2 * limit}, {1, limit - 63, limit / 64}, {1, limit - 64, limit/64 - 1}, {1, limit, limit / 64},
		{limit, limit, limit * (limit / 64)}, {limit - 1, limit, (limit - 1) * (limit / 64)}, {limit, limit - 64, limit * (limit/64 - 1)},
	} {
		if got := croch.Steps(c.n, c.m); got != c.want {
			t.Errorf("P21.1: Steps(%d, %d): %d, not %d", c.n, c.m, got, c.want)
		}
	}
	in := []int{0, 1, 2, 63, 64, 65, 1000, limit - 64, limit - 63, limit - 1, limit}
	out := []int{lowest, lowest + 1, -1 << 32, -limit, -65, -64, -1, limit + 1, limit + 64, 1 << 32, 1<<32 + 1, 1 << 62, highest - 1, highest}
	for _, n := range slices.Concat(in, out) {
		for _, m := range slices.Concat(in, out) {
			want := int64(0)
			if slices.Contains(in, n) && slices.Contains(in, m) {
				want = int64(n) * int64(vec.Words(m))
			}
			if got := croch.Steps(n, m); got != want {
				t.Errorf("P21.1: Steps(%d, %d): %d, not %d", n, m, got, want)
			}
			if got, want := croch.Steps(n, m), hyyro.Steps(n, m); got != want {
				t.Errorf("P21.1: Steps(%d, %d): %d, not %d, as hyyro has it", n, m, got, want)
			}
		}
	}
	for n := range 200 {
		for m := range 200 {
			words := 0
			for 64*words < m {
				words++
			}
			if got := croch.Steps(n, m); got != int64(n*words) {
				t.Errorf("P21.1: Steps(%d, %d): %d", n, m, got)
			}
		}
	}
}

// R1: no arguments make a call panic, also above the limit.
func TestNoPanic(t *testing.T) {
	at := append([]int{2, 63, 64, 65, limit, limit + 1, limit + 64, -limit}, wide...)
	for _, n := range at {
		for _, m := range at {
			croch.Steps(n, m)
		}
		for _, x := range [][]uint64{nil, {}, {ones}, make([]uint64, limit/64), slices.Repeat([]uint64{ones}, limit/64+2)} {
			for _, y := range [][]uint64{nil, {}, {1, ones}, x} {
				croch.Row(x, y, n)
				croch.Row(y, x, n)
			}
		}
	}
	all := func(a, b []int) {
		croch.Rows(a, b)
		croch.Len(a, b)
	}
	two([]int{lowest, 0, highest}, 3, all)
	for _, n := range []int{limit + 1, limit + 64} {
		for _, short := range [][]int{nil, {0}, {1, 0, n - 1}} {
			for _, long := range [][]int{make([]int, n), counted(n, 0)} {
				all(long, short)
				all(short, long)
			}
		}
	}
}

// samples are lists that have something in common, and such that have not.
func samples() [][2][]int {
	return [][2][]int{
		{{1}, {1}}, {{1, 2}, {2, 1}}, {{1, 2, 3, 2}, {1, 2, 4, 3, 2}}, {{5, 5, 5, 5, 5}, {5, 5, 5}}, {{1, 2, 1, 3, 1, 2, 2, 1}, {2, 1, 1, 3, 1, 2, 3}}, {{77, 1}, {1, 77}}, {{77}, {77, 77, 77}}, {{9, 4, 9}, counted(70, 0)}, {counted(70, 0), {9, 4, 9}}, {{1, 7, 1}, slices.Repeat([]int{1, 2}, 64)},
		{{1, 2}, {3}}, {{1, 2, 3}, counted(129, 4)}, {nil, {1}}, {{1}, nil}, {{1, 2, 3}, nil}, {nil, nil},
	}
}

// vectors are samples for Row.
func vectors() [][]uint64 {
	return [][]uint64{nil, {}, {0}, {1}, {77}, {ones}, {ones, ones}, {ones - 1, 5}, {1, top, ones}, {ones, ones, ones}}
}

// R4: no call modifies an argument or its spare capacity, and no change of a
// result changes one.
func TestListsStay(t *testing.T) {
	for _, c := range samples() {
		a, b := roomy(c[0]), roomy(c[1])
		rows := croch.Rows(a, b)
		croch.Len(a, b)
		for _, row := range rows {
			fill(row, 99)
			fill(append(row, 98), 98)
		}
		fill(rows, []uint64{97})
		if !stayed(a, c[0]) || !stayed(b, c[1]) {
			t.Fatalf("R4: %d or %d was modified: %d, %d", c[0], c[1], a[:cap(a)], b[:cap(b)])
		}
		check(t, a, b)
	}
}

// R4: the same for Row, also where it has nothing to do.
func TestVectorsStay(t *testing.T) {
	for _, x := range vectors() {
		for _, y := range vectors() {
			for _, m := range []int{-1, 0, 1, 63, 64, 65, 128, 129, 192, 200, 400} {
				v, u := roomy(x), roomy(y)
				want := formula(x, y, m)
				first, second := croch.Row(v, u, m), croch.Row(v, u, m)
				if !stayed(v, x) || !stayed(u, y) {
					t.Fatalf("R4: Row at %d modified %x or %x: %x, %x", m, x, y, v[:cap(v)], u[:cap(u)])
				}
				fill(first, 99)
				fill(append(first, 98), 98)
				if !stayed(v, x) || !stayed(u, y) {
					t.Fatalf("R4: Row at %d shares memory with %x or %x", m, x, y)
				}
				fill(v, 96)
				fill(u, 95)
				if !slices.Equal(second, want) {
					t.Fatalf("R4: Row(%x, %x, %d): %x, then %x", x, y, m, want, second)
				}
			}
		}
	}
}

// R4: rows are new memory, with their spare capacity: whoever changes one, or
// an argument, changes no other row of the same call or of another one.
func TestRowsShareNothing(t *testing.T) {
	for _, c := range samples() {
		a, b := slices.Clone(c[0]), slices.Clone(c[1])
		first, second := croch.Rows(a, b), croch.Rows(a, b)
		if len(first) != len(c[0])+1 {
			t.Fatalf("P21.1: Rows(%d, %d): %d rows", c[0], c[1], len(first))
		}
		for i := range first {
			fill(first[i], 99)
			first[i] = append(first[i], 98)
			fill(first[i], 98)
			if f := stepped(common(c[0], c[1])[i+1:], first[i+1:]); f != "" {
				t.Fatalf("R4: %d and %d: after a change of row %d: %s", c[0], c[1], i, f)
			}
		}
		for i, row := range slices.Backward(second) {
			again := croch.Rows(a, b)
			fill(again[i], 97)
			fill(append(again[i], 96), 96)
			if f := stepped(common(c[0], c[1])[:i], again[:i]); f != "" {
				t.Fatalf("R4: %d and %d: after a change of row %d: %s", c[0], c[1], i, f)
			}
			if !slices.Equal(row, croch.Rows(c[0], c[1])[i]) {
				t.Fatalf("R4: %d and %d: row %d: %x", c[0], c[1], i, row)
			}
		}
		fill(a, -9)
		fill(b, -10)
		if f := stepped(common(c[0], c[1]), second); f != "" {
			t.Fatalf("R4: %d and %d: after a change of the lists: %s", c[0], c[1], f)
		}
		check(t, a, b)
		check(t, c[0], c[1])
	}
}

// R5: answers hang on the arguments alone: what is passed may be one piece of
// memory or several, and what was asked before does not matter.
func TestAnswersStay(t *testing.T) {
	whole := []int{1, 1, 2, 1, 1, 2, 3}
	words := []uint64{ones, 6, top | 1, ones}
	for range 4 {
		check(t, whole, whole)
		check(t, whole[:3], whole[3:])
		check(t, whole[3:], whole[:3])
		check(t, whole[1:5], whole[2:])
		check(t, nil, whole)
		check(t, whole, nil)
		check(t, slices.Clone(whole), whole[2:])
		for _, m := range []int{200, 64, 65, 1, 0, 256} {
			checkRow(t, words, words, m)
			checkRow(t, words[1:], words[:3], m)
			checkRow(t, words, words[2:], m)
			checkRow(t, nil, words, m)
			checkRow(t, words, nil, m)
			checkRow(t, slices.Clone(words), words, m)
		}
	}
}

// R5: many goroutines at once, with the same lists and with lists of their
// own.
func TestManyAtOnce(t *testing.T) {
	shared := rand.New(rand.NewSource(215))
	for round := range 30 {
		a, b := some(shared, 40, 5), some(shared, 150, 5)
		v, u := someWords(shared, 4), someWords(shared, 4)
		l := common(a, b)
		var group sync.WaitGroup
		start := make(chan bool)
		faults := make([]string, 8)
		for g := range faults {
			group.Go(func() {
				r := rand.New(rand.NewSource(int64(100*round + g)))
				<-start
				for range 6 {
					c, d := some(r, 20, 3), some(r, 90, 3)
					for _, f := range []string{fault(a, b, l), fault(c, d, common(c, d)), rowFault(v, u, 200), rowFault(someWords(r, 4), u, r.Intn(260))} {
						if f != "" {
							faults[g] = f
						}
					}
				}
			})
		}
		close(start)
		group.Wait()
		for g, f := range faults {
			if f != "" {
				t.Fatalf("R5: goroutine %d: %s", g, f)
			}
		}
	}
}
