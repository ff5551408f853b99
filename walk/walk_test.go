package walk_test

import (
	"fmt"
	"math"
	"math/rand"
	"runtime"
	"runtime/debug"
	"runtime/metrics"
	"slices"
	"sync"
	"testing"
	"time"

	"tatting/api"
	"tatting/croch"
	"tatting/grid"
	"tatting/hyyro"
	"tatting/pairs"
	"tatting/vec"
	"tatting/walk"
)

const (
	lowest  = math.MinInt
	highest = math.MaxInt
	limit   = api.MaxTokens
	kinds   = 2
)

// lengths are numbers of bits about the ends of words.
var lengths = []int{1, 2, 62, 63, 64, 65, 66, 126, 127, 128, 129, 191, 192, 193, 257}

// wide has numbers at the ends of the range of an int, about 0 and where fewer
// bits end.
var wide = []int{lowest, lowest + 1, -1 << 32, -1<<31 - 1, -7, -1, 0, 1, 1 << 31, 1<<32 + 1, highest - 1, highest}

// common returns L of all beginnings of a and b, by the textbook.
func common(a, b []int) [][]int {
	t := [][]int{make([]int, len(b)+1)}
	for i, x := range a {
		next := make([]int, len(b)+1)
		for j, y := range b {
			if next[j+1] = max(next[j], t[i][j+1]); x == y {
				next[j+1] = t[i][j] + 1
			}
		}
		t = append(t, next)
	}
	return t
}

// defined follows the definition of L in chapter 8.
func defined(a, b []int) int {
	if len(a) == 0 || len(b) == 0 {
		return 0
	}
	if a[0] == b[0] {
		return 1 + defined(a[1:], b[1:])
	}
	return max(defined(a[1:], b), defined(a, b[1:]))
}

// traced follows the words of P22.1: one tells whether bit j of row i is 1.
func traced(a, b []int, one func(i, j int) bool) []api.Pair {
	var found []api.Pair
	for i, j := len(a), len(b); i != 0 && j != 0; {
		if one(i, j-1) {
			j--
		} else if a[i-1] == b[j-1] {
			found = append(found, api.Pair{I: i - 1, J: j - 1})
			i--
			j--
		} else {
			i--
		}
	}
	slices.Reverse(found)
	return found
}

// byRows returns the list for all rows.
func byRows(a, b []int, rows [][]uint64) []api.Pair {
	return traced(a, b, func(i, j int) bool { return rows[i][j/64]>>(j%64)&1 == 1 })
}

// byTable returns the list for L of all beginnings, by what P20.2 says of the
// rows.
func byTable(a, b []int, l [][]int) []api.Pair {
	return traced(a, b, func(i, j int) bool { return l[i][j+1] == l[i][j] })
}

// byDefinition returns the list by the definition of L.
func byDefinition(a, b []int) []api.Pair {
	return traced(a, b, func(i, j int) bool { return defined(a[:i], b[:j+1]) == defined(a[:i], b[:j]) })
}

// everys returns every value of every from 1 to beyond n, and the greatest
// ones.
func everys(n int) []int {
	return append(counted(n+3, 1), limit, limit+1, 1<<32, highest-1, highest)
}

// fewEverys returns values about the root, the half and the whole of n.
func fewEverys(n int) []int {
	l := []int{1, 2, 3, walk.Root(n), n/3 + 1, n/2 + 1, n - 1, n, n + 1, highest}
	return slices.DeleteFunc(l, func(every int) bool { return every < 1 })
}

// runFault tells what Run answers otherwise than the list, with both kinds and
// the values of every, or nothing.
func runFault(a, b []int, every []int, want []api.Pair) string {
	steps := 2 * hyyro.Steps(len(a), len(b))
	for kind := range kinds {
		for _, n := range every {
			l, s, e := walk.Run(kind, a, b, n)
			if e != api.OK || s != steps {
				return fmt.Sprintf("P22.1: Run of kind %d, every %d: %d steps, not %d, error %d", kind, n, s, steps, e)
			}
			if !slices.Equal(l, want) {
				return fmt.Sprintf("P22.1: Run of kind %d, every %d: %v, not %v", kind, n, l, want)
			}
			if !pairs.Good(a, b, l) {
				return fmt.Sprintf("P22.2: Run of kind %d, every %d: %v is not valid", kind, n, l)
			}
		}
	}
	return ""
}

// fault tells what Run answers otherwise than P22.1 and P22.2 ask, or nothing.
func fault(a, b []int, every []int) string {
	want := byRows(a, b, hyyro.Rows(a, b))
	if other := byRows(a, b, croch.Rows(a, b)); !slices.Equal(other, want) {
		return fmt.Sprintf("P22.1: the rows of croch: %v, not %v", other, want)
	}
	if other := byTable(a, b, common(a, b)); !slices.Equal(other, want) {
		return fmt.Sprintf("P22.1: the table: %v, not %v", other, want)
	}
	if n := grid.Len(a, b); n != len(want) {
		return fmt.Sprintf("P22.2: %d pairs, not %d", len(want), n)
	}
	return runFault(a, b, every, want)
}

// told writes two lists, unless they are long.
func told(a, b []int) string {
	if len(a)+len(b) > 200 {
		return fmt.Sprintf("%d and %d numbers", len(a), len(b))
	}
	return fmt.Sprintf("%d and %d", a, b)
}

// check holds Run against the list that is worked out from all rows, for every
// value of every.
func check(t *testing.T, a, b []int) {
	t.Helper()
	if f := fault(a, b, everys(len(a))); f != "" {
		t.Fatalf("%s: %.500s", told(a, b), f)
	}
}

// checkFew is check for a few values of every.
func checkFew(t *testing.T, a, b []int) {
	t.Helper()
	if f := fault(a, b, fewEverys(len(a))); f != "" {
		t.Fatalf("%s: %.500s", told(a, b), f)
	}
}

// checkTold holds Run against a list that is told.
func checkTold(t *testing.T, a, b []int, every []int, want []api.Pair) {
	t.Helper()
	if f := runFault(a, b, every, want); f != "" {
		t.Fatalf("%s: %.500s", told(a, b), f)
	}
}

// lists calls use with every list of up to length of the given elements.
func lists[E any](elements []E, length int, use func([]E)) {
	last := [][]E{nil}
	use(nil)
	for range length {
		var next [][]E
		for _, l := range last {
			for _, e := range elements {
				next = append(next, append(slices.Clone(l), e))
			}
		}
		for _, l := range next {
			use(l)
		}
		last = next
	}
}

// two calls use with every two lists of up to length of the given elements.
func two[E any](elements []E, length int, use func(a, b []E)) {
	lists(elements, length, func(a []E) {
		lists(elements, length, func(b []E) {
			use(a, b)
		})
	})
}

// some returns up to length numbers out of few, about 0.
func some(r *rand.Rand, length, different int) []int {
	return exactly(r, r.Intn(length+1), different)
}

// exactly returns n numbers out of few, about 0.
func exactly(r *rand.Rand, n, different int) []int {
	l := make([]int, n)
	for i := range l {
		l[i] = r.Intn(different) - different/2
	}
	return l
}

// counted returns n numbers from first on.
func counted(n, first int) []int {
	l := make([]int, n)
	for i := range l {
		l[i] = first + i
	}
	return l
}

// diagonal returns n pairs from (i, j) on.
func diagonal(n, i, j int) []api.Pair {
	l := make([]api.Pair, n)
	for k := range l {
		l[k] = api.Pair{I: i + k, J: j + k}
	}
	return l
}

// reversed returns a copy from its end to its beginning.
func reversed(l []int) []int {
	l = slices.Clone(l)
	slices.Reverse(l)
	return l
}

// fill overwrites a list and its spare capacity.
func fill[E any](l []E, with E) {
	l = l[:cap(l)]
	for i := range l {
		l[i] = with
	}
}

// roomy returns a copy of l with spare capacity, which holds a number of its
// own.
func roomy(l []int) []int {
	whole := slices.Repeat([]int{77}, len(l)+5)
	copy(whole, l)
	return whole[:len(l)]
}

// stayed reports whether a list that roomy made is as it was, with its spare
// capacity.
func stayed(l, was []int) bool {
	return slices.Equal(l[:cap(l)], roomy(was)[:len(was)+5])
}

// P22.1: the examples of the chapter, and what goes with them.
func TestExamples(t *testing.T) {
	if l := walk.Kept(5, 2); !slices.Equal(l, []int{0, 2, 4}) {
		t.Errorf("P22.1: Kept(5, 2): %d", l)
	}
	if r := walk.Root(5); r != 3 {
		t.Errorf("P22.1: Root(5): %d", r)
	}
	// Three rows, and two behind one of them, of two words each.
	if n := walk.Room(5, 65, 2); n != 10 {
		t.Errorf("P22.1: Room(5, 65, 2): %d", n)
	}
	checkTold(t, []int{7}, []int{5, 7}, everys(1), []api.Pair{{I: 0, J: 1}})
	checkTold(t, []int{1, 2, 3, 4}, []int{2, 9, 4, 3}, everys(4), []api.Pair{{I: 1, J: 0}, {I: 3, J: 2}})
}

// P22.1: Kept is 0 and each multiple that is less than n, told.
func TestKeptTold(t *testing.T) {
	for _, c := range []struct {
		n, every int
		want     []int
	}{
		{0, 1, []int{0}}, {0, 2, []int{0}}, {0, highest, []int{0}}, {1, 1, []int{0}}, {1, 2, []int{0}}, {2, 1, []int{0, 1}}, {2, 2, []int{0}}, {3, 2, []int{0, 2}}, {4, 2, []int{0, 2}}, {4, 3, []int{0, 3}}, {4, 4, []int{0}}, {4, 5, []int{0}}, {5, 4, []int{0, 4}}, {9, 3, []int{0, 3, 6}}, {10, 3, []int{0, 3, 6, 9}},
		{3, highest, []int{0}}, {limit, highest, []int{0}}, {limit, limit, []int{0}}, {limit, limit + 1, []int{0}}, {limit, limit - 1, []int{0, limit - 1}}, {limit - 1, limit - 1, []int{0}}, {limit, limit / 2, []int{0, limit / 2}}, {limit, limit/2 - 1, []int{0, limit/2 - 1, limit - 2}},
		{-1, 1, nil}, {lowest, 1, nil}, {limit + 1, 1, nil}, {limit + 1, limit, nil}, {limit + 1, highest, nil}, {highest, 1, nil}, {highest, highest, nil}, {5, 0, nil}, {5, -1, nil}, {5, -2, nil}, {5, lowest, nil}, {0, 0, nil}, {0, -1, nil}, {limit, 0, nil}, {-1, 0, nil}, {lowest, lowest, nil}, {limit + 1, 0, nil},
	} {
		if got := walk.Kept(c.n, c.every); !slices.Equal(got, c.want) {
			t.Errorf("P22.1: Kept(%d, %d): %.200d, not %d", c.n, c.every, got, c.want)
		}
	}
}

// multiples returns 0 and each multiple of every below n, one number after the
// other.
func multiples(n, every int) []int {
	l := []int{0}
	for i := 1; i < n; i++ {
		if i%every == 0 {
			l = append(l, i)
		}
	}
	return l
}

// P22.1: Kept against all multiples.
func TestKept(t *testing.T) {
	for n := range 150 {
		for _, every := range everys(n) {
			if got, want := walk.Kept(n, every), multiples(n, every); !slices.Equal(got, want) {
				t.Fatalf("P22.1: Kept(%d, %d): %d, not %d", n, every, got, want)
			}
		}
		for _, every := range []int{0, -1, -n, -n - 1, -limit, lowest, lowest + 1} {
			if got := walk.Kept(n, every); len(got) != 0 {
				t.Fatalf("P22.1: Kept(%d, %d): %d, not empty", n, every, got)
			}
		}
	}
	for _, n := range []int{limit - 1, limit} {
		for _, every := range []int{1, 2, 3, 1000, 1023, 1024, 1025, limit / 2, limit - 2, limit - 1, limit, limit + 1} {
			if got, want := walk.Kept(n, every), multiples(n, every); !slices.Equal(got, want) {
				t.Errorf("P22.1: Kept(%d, %d): %d rows, not %d", n, every, len(got), len(want))
			}
		}
	}
}

// P22.1: Room, told.
func TestRoomTold(t *testing.T) {
	for _, c := range []struct {
		n, m, every int
		want        int64
	}{
		{0, 0, 1, 0}, {0, 1, 1, 1}, {0, 64, highest, 1}, {0, 65, 1, 2}, {1, 1, 1, 2}, {5, 1, 2, 5}, {5, 64, 2, 5}, {5, 65, 2, 10}, {5, 0, 2, 0}, {5, 1, 1, 6}, {5, 1, 4, 6}, {5, 1, 5, 6}, {5, 1, 6, 6}, {5, 1, highest, 6}, {6, 1, 3, 5}, {100, 129, 10, 60},
		{limit, limit, 1024, 2048 * (limit / 64)}, {limit, 1, 1, limit + 1}, {limit, limit, 1, (limit + 1) * (limit / 64)}, {limit, limit, limit, (limit + 1) * (limit / 64)}, {limit, limit, limit - 1, (limit + 1) * (limit / 64)}, {limit, limit, highest, (limit + 1) * (limit / 64)}, {0, limit, 1, limit / 64}, {0, limit - 63, 1, limit / 64}, {0, limit - 64, 1, limit/64 - 1},
	} {
		if got := walk.Room(c.n, c.m, c.every); got != c.want {
			t.Errorf("P22.1: Room(%d, %d, %d): %d, not %d", c.n, c.m, c.every, got, c.want)
		}
	}
}

// P22.1: Room against the rows of Kept and the words of vec, at its ranges and
// beside them.
func TestRoom(t *testing.T) {
	ns := []int{0, 1, 2, 3, 63, 64, 65, 1000, limit - 1, limit}
	out := []int{lowest, lowest + 1, -1 << 32, -limit, -65, -1, limit + 1, limit + 64, 1 << 32, 1<<32 + 1, 1 << 62, highest - 1, highest}
	every := []int{lowest, -limit, -1, 0, 1, 2, 3, 7, 1000, 1024, limit - 1, limit, limit + 1, 1 << 32, 1 << 62, highest - 1, highest}
	for _, n := range slices.Concat(ns, out) {
		for _, e := range every {
			rows := int64(len(walk.Kept(n, e)))
			for _, m := range slices.Concat(ns, out) {
				want := int64(0)
				if rows > 0 && !slices.Contains(out, m) {
					want = (rows + int64(min(e, n))) * int64(vec.Words(m))
				}
				if got := walk.Room(n, m, e); got != want {
					t.Errorf("P22.1: Room(%d, %d, %d): %d, not %d", n, m, e, got, want)
				}
			}
		}
	}
	for n := range 60 {
		for m := range 150 {
			for _, e := range append(everys(n), 0, -1) {
				want := int64(0)
				if e > 0 {
					want = int64(len(multiples(n, e))+min(e, n)) * int64((m+63)/64)
				}
				if got := walk.Room(n, m, e); got != want {
					t.Fatalf("P22.1: Room(%d, %d, %d): %d, not %d", n, m, e, got, want)
				}
			}
		}
	}
}

// P22.1: Root about every square, and beside its range.
func TestRoot(t *testing.T) {
	for r := 1; r < 1024; r++ {
		for n, want := range map[int]int{r*r - 1: r, r * r: r, r*r + 1: r + 1, r*r + 2*r: r + 1, (r + 1) * (r + 1): r + 1} {
			if got := walk.Root(n); got != want {
				t.Errorf("P22.1: Root(%d): %d, not %d", n, got, want)
			}
		}
	}
	for n, want := range map[int]int{0: 1, 1: 1, 2: 2, 3: 2, 4: 2, 5: 3, 8: 3, 9: 3, 10: 4, 15: 4, 16: 4, 17: 5, -1: 1, -2: 1, -4: 1, -limit: 1, lowest + 1: 1, lowest: 1, 1023 * 1023: 1023, 1023*1023 + 1: 1024, limit - 1: 1024, limit: 1024, limit + 1: 1024, limit + 2: 1024, 1025 * 1025: 1024, 1 << 32: 1024, 1 << 62: 1024, highest - 1: 1024, highest: 1024} {
		if got := walk.Root(n); got != want {
			t.Errorf("P22.1: Root(%d): %d, not %d", n, got, want)
		}
	}
	for n := range 3000 {
		r := walk.Root(n)
		if r < 1 || r*r < n || r > 1 && (r-1)*(r-1) >= n {
			t.Errorf("P22.1: Root(%d): %d", n, r)
		}
	}
}

// P22.1 and R2: a kind that is none, or an every below 1, is an error, with
// neither pairs nor steps.
func TestWrongArguments(t *testing.T) {
	wrongKinds := []int{-1, 2, 3, -2, 256, 1 << 32, 1<<32 + 1, lowest, lowest + 1, highest - 1, highest}
	wrongEverys := []int{0, -1, -2, -1 << 32, -1<<32 + 1, lowest, lowest + 1}
	checkWrong := func(kind, every int) {
		for _, c := range samples() {
			if l, s, e := walk.Run(kind, c[0], c[1], every); e != api.EARG || s != 0 || l != nil {
				t.Errorf("P22.1: Run of kind %d, every %d: %v, %d, %d", kind, every, l, s, e)
			}
		}
	}
	for _, kind := range wrongKinds {
		for _, every := range []int{1, 2, limit, highest} {
			checkWrong(kind, every)
		}
	}
	for _, every := range wrongEverys {
		for kind := range kinds {
			checkWrong(kind, every)
		}
		for _, kind := range wrongKinds {
			checkWrong(kind, every)
		}
	}
	for kind := range kinds {
		if l, s, e := walk.Run(kind, []int{1}, []int{1}, 1); e != api.OK || s != 2 || len(l) != 1 {
			t.Errorf("P22.1: Run of kind %d, every 1: %v, %d, %d", kind, l, s, e)
		}
	}
}

// P22.1: the edges, with the pairs told.
func TestEdges(t *testing.T) {
	for _, c := range []struct {
		a, b []int
		want []api.Pair
	}{
		{nil, nil, nil}, {nil, []int{}, nil}, {[]int{}, []int{}, nil}, {[]int{1}, nil, nil}, {nil, []int{1}, nil}, {[]int{1, 2, 3}, nil, nil}, {nil, []int{1, 2, 3}, nil}, {[]int{}, counted(130, 0), nil}, {counted(130, 0), []int{}, nil},
		{[]int{1}, []int{1}, []api.Pair{{I: 0, J: 0}}}, {[]int{1}, []int{2}, nil}, {[]int{0}, []int{0}, []api.Pair{{I: 0, J: 0}}}, {[]int{1, 2}, []int{3, 4}, nil}, {[]int{-1}, []int{1}, nil}, {[]int{-1}, []int{-1}, []api.Pair{{I: 0, J: 0}}},

		// Of equal numbers, the last ones of a and the first ones of b.
		{[]int{5, 5, 5}, []int{5}, []api.Pair{{I: 2, J: 0}}}, {[]int{5}, []int{5, 5, 5}, []api.Pair{{I: 0, J: 0}}}, {[]int{5, 5, 5}, []int{5, 5}, []api.Pair{{I: 1, J: 0}, {I: 2, J: 1}}}, {[]int{5, 5}, []int{5, 5, 5}, []api.Pair{{I: 0, J: 0}, {I: 1, J: 1}}}, {[]int{1, 2}, []int{2, 1}, []api.Pair{{I: 1, J: 0}}}, {[]int{2, 1}, []int{1, 2}, []api.Pair{{I: 1, J: 0}}}, {[]int{1, 2, 1}, []int{1}, []api.Pair{{I: 2, J: 0}}}, {[]int{1}, []int{1, 2, 1}, []api.Pair{{I: 0, J: 0}}},

		// A bit is 0 where the numbers differ: i goes down.
		{[]int{1, 9}, []int{1}, []api.Pair{{I: 0, J: 0}}}, {[]int{1, 9, 9, 9}, []int{1}, []api.Pair{{I: 0, J: 0}}}, {[]int{9, 1, 9}, []int{8, 1}, []api.Pair{{I: 1, J: 1}}}, {[]int{1, 9, 2, 9}, []int{1, 2}, []api.Pair{{I: 0, J: 0}, {I: 2, J: 1}}}, {[]int{1, 2, 9, 8, 7}, []int{1, 2}, []api.Pair{{I: 0, J: 0}, {I: 1, J: 1}}},

		// A bit is 1: j goes down.
		{[]int{1}, []int{1, 9}, []api.Pair{{I: 0, J: 0}}}, {[]int{1}, []int{9, 1, 9, 9}, []api.Pair{{I: 0, J: 1}}}, {[]int{1, 2}, []int{1, 9, 2, 9}, []api.Pair{{I: 0, J: 0}, {I: 1, J: 2}}},

		{[]int{1, 2, 3}, []int{3, 2, 1}, []api.Pair{{I: 2, J: 0}}}, {[]int{1, 2, 3}, []int{1, 2, 3}, diagonal(3, 0, 0)}, {[]int{1, 2, 3, 4}, []int{3, 4, 1, 2}, diagonal(2, 2, 0)}, {[]int{9, 1, 2}, []int{1, 2, 9}, diagonal(2, 1, 0)},
	} {
		checkTold(t, c.a, c.b, everys(len(c.a)), c.want)
		check(t, c.a, c.b)
	}
}

// P22.1: steps are twice those of hyyro, however soon the way back ends.
func TestSteps(t *testing.T) {
	for _, c := range []struct {
		n, m int
		want int64
	}{
		{0, 0, 0}, {0, 5, 0}, {5, 0, 0}, {1, 1, 2}, {5, 1, 10}, {5, 63, 10}, {5, 64, 10}, {5, 65, 20}, {5, 128, 20}, {5, 129, 30}, {64, 5, 128}, {129, 129, 774}, {1000, 1000, 32000},
	} {
		for _, lists := range [][2][]int{{make([]int, c.n), make([]int, c.m)}, {counted(c.n, 0), counted(c.m, 0)}, {counted(c.n, 0), counted(c.m, c.n)}, {reversed(counted(c.n, 0)), counted(c.m, 0)}} {
			for kind := range kinds {
				for _, every := range fewEverys(c.n) {
					if _, s, e := walk.Run(kind, lists[0], lists[1], every); s != c.want || e != api.OK {
						t.Errorf("P22.1: Run of kind %d, %d and %d numbers, every %d: %d steps, not %d", kind, c.n, c.m, every, s, c.want)
					}
				}
			}
		}
	}
}

// P22.1 and P22.2: every two short lists.
func TestAllShortLists(t *testing.T) {
	two([]int{-3, 0, 5}, 3, func(a, b []int) {
		checkTold(t, a, b, everys(len(a)), byDefinition(a, b))
	})
	two([]int{1, 2}, 5, func(a, b []int) {
		check(t, a, b)
	})
	// The end of a word among the numbers of a short list.
	for ahead := 62; ahead < 66; ahead++ {
		two([]int{1, 2}, 3, func(a, b []int) {
			check(t, a, slices.Concat(slices.Repeat([]int{7}, ahead), b))
		})
		lists([]int{1, 7}, 4, func(a []int) {
			check(t, a, slices.Concat(slices.Repeat([]int{7}, ahead), a))
			check(t, reversed(a), slices.Concat(slices.Repeat([]int{7}, ahead), a))
		})
	}
}

// P22.1 and P22.2: longer lists, of few numbers and of many.
func TestManyLists(t *testing.T) {
	r := rand.New(rand.NewSource(221))
	for round := range 400 {
		different := 1 + r.Intn(1+round%60)
		a, b := some(r, 40, different), some(r, 40+round%200, different)
		check(t, a, b)
		checkFew(t, b, a)
	}
	for _, m := range lengths {
		for different := 1; different < 12; different++ {
			a, b := some(r, 150, different), exactly(r, m, different)
			checkFew(t, a, b)
			checkFew(t, b, a)
		}
	}
}

// P22.1: a first list as long as a multiple of every, and one number longer
// or shorter.
func TestLengthsAboutMultiples(t *testing.T) {
	r := rand.New(rand.NewSource(222))
	for _, every := range []int{1, 2, 3, 4, 5, 7, 8, 16, 63, 64, 65} {
		for times := 1; times < 5; times++ {
			for _, n := range []int{every*times - 1, every * times, every*times + 1} {
				for _, different := range []int{1, 2, 4, 30} {
					a, b := exactly(r, n, different), some(r, 150, different)
					if f := fault(a, b, []int{every}); f != "" {
						t.Fatalf("%s: %s", told(a, b), f)
					}
				}
				same := counted(n, 0)
				checkTold(t, same, same, []int{every}, diagonal(n, 0, 0))
			}
		}
	}
}

// P22.1: pairs just before a stored row, at it and behind it, where a has
// nothing else in common with b.
func TestPairsAboutStoredRows(t *testing.T) {
	const n = 24
	for every := 1; every <= n+1; every++ {
		for at := range n {
			a := counted(n, 100)
			a[at] = 1
			checkTold(t, a, []int{1}, []int{every}, diagonal(1, at, 0))
			checkTold(t, a, []int{9, 1, 9}, []int{every}, diagonal(1, at, 1))
			for next := at + 1; next < n; next++ {
				a[next] = 2
				checkTold(t, a, []int{1, 2}, []int{every}, []api.Pair{{I: at, J: 0}, {I: next, J: 1}})
				a[next] = 1
				checkTold(t, a, []int{1, 2}, []int{every}, diagonal(1, next, 0))
				a[next] = 100 + next
			}
		}
	}
}

// P22.1 and P22.2: second lists about the ends of words: the same list twice,
// nothing alike, and what lies between.
func TestEndsOfWords(t *testing.T) {
	for _, n := range lengths {
		l, zeros := counted(n, 0), make([]int, n)
		checkTold(t, l, l, fewEverys(n), diagonal(n, 0, 0))
		checkTold(t, zeros, slices.Clone(zeros), fewEverys(n), diagonal(n, 0, 0))
		checkTold(t, l, counted(n, n), fewEverys(n), nil)
		checkTold(t, []int{0}, zeros, everys(1), diagonal(1, 0, 0))
		checkTold(t, zeros, []int{0}, fewEverys(n), diagonal(1, n-1, 0))
		checkTold(t, []int{n - 1}, l, everys(1), diagonal(1, 0, n-1))
		checkTold(t, reversed(l), l, fewEverys(n), diagonal(1, n-1, 0))
		for _, other := range [][]int{{n - 2, n - 1}, {-2}, {99, n - 3, 99}, slices.Concat(l[n/2:], l[:n/2]), slices.Concat([]int{1000}, l, []int{1000, -3}), slices.Repeat([]int{0, 1, 77}, 9)} {
			checkFew(t, other, l)
			checkFew(t, l, other)
			checkFew(t, other, zeros)
		}
	}
}

// P22.1: one long list for every value of every.
func TestEveryValueOfEvery(t *testing.T) {
	r := rand.New(rand.NewSource(223))
	for _, different := range []int{2, 9, 60} {
		check(t, exactly(r, 200, different), exactly(r, 190, different))
	}
}

// P22.1 and P22.2: numbers that fewer bits would not tell from each other.
func TestWideNumbers(t *testing.T) {
	for _, c := range [][2]int{{0, 1 << 32}, {0, 256}, {0, 1 << 16}, {lowest, 0}, {lowest, highest}, {1, 1 + 1<<32}, {-1, 1<<32 - 1}, {-1, 1}, {1 << 31, -1 << 31}, {1 << 52, 1<<52 + 1}, {1 << 53, 1<<53 + 1}, {1 << 62, 1<<62 + 1}} {
		checkTold(t, c[:1], c[1:], everys(1), nil)
		checkTold(t, []int{c[0], c[1]}, []int{c[1], c[0]}, everys(2), diagonal(1, 1, 0))
		checkTold(t, c[:], slices.Clone(c[:]), everys(2), diagonal(2, 0, 0))
		check(t, slices.Repeat(c[:], 3), slices.Repeat([]int{c[1], c[0]}, 40))
	}
	r := rand.New(rand.NewSource(224))
	for range 200 {
		a, b := make([]int, r.Intn(25)), make([]int, r.Intn(90))
		for _, l := range [][]int{a, b} {
			for i := range l {
				l[i] = wide[r.Intn(len(wide))]
			}
		}
		check(t, a, b)
	}
}

// P22.1: what lies in the memory before and behind a list is no part of it.
func TestMemoryAroundIsNoPart(t *testing.T) {
	whole := []int{1, 2, 3, 1, 2, 3, 1, 2, 3}
	for n := range whole {
		for m := range whole {
			check(t, whole[:n], whole[:m])
			check(t, whole[n:], whole[:m])
			check(t, whole[n:], whole[m:])
		}
	}
}

// P22.2: long lists whose pairs are known.
func TestLongLists(t *testing.T) {
	const n = 5000
	l := counted(n, 0)
	every := []int{1, 71, 2500, n, highest}
	checkTold(t, l, l, every, diagonal(n, 0, 0))
	checkTold(t, l, l[1:], every, diagonal(n-1, 1, 0))
	checkTold(t, l[1:], l, every, diagonal(n-1, 0, 1))
	checkTold(t, l, slices.Concat(l[n-10:], l[:n-10]), every, diagonal(n-10, 0, 10))
	checkTold(t, slices.Concat(l[n-10:], l[:n-10]), l, every, diagonal(n-10, 10, 0))
	checkTold(t, l, reversed(l), every, diagonal(1, n-1, 0))
	checkTold(t, l, counted(n, n), every, nil)
	checkTold(t, make([]int, n), make([]int, 100), every, diagonal(100, n-100, 0))
	checkTold(t, make([]int, 100), make([]int, n), every, diagonal(100, 0, 0))
}

// P22.1 and P22.2 at the limit: a long list beside a short one.
func TestAtTheLimit(t *testing.T) {
	long, equal := counted(limit, 0), make([]int, limit)
	root := walk.Root(limit)
	checkTold(t, long, []int{limit - 1, 6, 8, 7}, []int{root, limit - 1}, []api.Pair{{I: 6, J: 1}, {I: 8, J: 2}})
	checkTold(t, equal, []int{0, 7, 0, 0}, []int{1, limit}, []api.Pair{{I: limit - 3, J: 0}, {I: limit - 2, J: 2}, {I: limit - 1, J: 3}})
	checkTold(t, long, nil, []int{root}, nil)
	checkTold(t, nil, equal, everys(0), nil)
	checkTold(t, []int{limit - 1, 6, 8, 7}, long, []int{1, 3}, []api.Pair{{I: 1, J: 6}, {I: 3, J: 7}})
	checkTold(t, []int{0, 1, 0}, equal, everys(3), []api.Pair{{I: 0, J: 0}, {I: 2, J: 1}})
	checkTold(t, counted(500, limit-500), long, []int{22}, diagonal(500, 0, limit-500))
	checkTold(t, reversed(long[limit-64:]), long, []int{64}, diagonal(1, 63, limit-64))
}

// The chapter's memory: some of the rows, and not all of them at once. What is
// sampled has what waits for the collector too, which is less than the rows
// that are not stored.
func TestMemory(t *testing.T) {
	const n, m = 1 << 16, 1 << 15
	const all = n * (m / 64) * 8
	a, b := make([]int, n), make([]int, m)
	for i := range a {
		a[i] = i % 5
	}
	for j := range b {
		b[j] = j % 7
	}
	// What earlier tests left would let the heap grow further.
	defer debug.SetGCPercent(debug.SetGCPercent(100))
	runtime.GC()
	done := make(chan bool)
	var group sync.WaitGroup
	most := uint64(0)
	group.Go(func() {
		sample := []metrics.Sample{{Name: "/memory/classes/heap/objects:bytes"}}
		for {
			select {
			case <-done:
				return
			case <-time.After(5 * time.Millisecond):
				metrics.Read(sample)
				most = max(most, sample[0].Value.Uint64())
			}
		}
	})
	for kind := range kinds {
		walk.Run(kind, a, b, walk.Root(n))
	}
	close(done)
	group.Wait()
	if most > all/4*3 {
		t.Errorf("P22.1: Run of %d and %d numbers had %d bytes at once, of %d for all rows", n, m, most, all)
	}
}

// R1: no arguments make a call panic, also above the limit.
func TestNoPanic(t *testing.T) {
	at := append([]int{2, 63, 64, 65, limit - 1, limit, limit + 1, limit + 64, -limit, -limit - 1}, wide...)
	for _, n := range at {
		walk.Root(n)
		for _, every := range at {
			walk.Kept(n, every)
			for _, m := range at {
				walk.Room(n, m, every)
			}
		}
	}
	two([]int{lowest, 0, highest}, 2, func(a, b []int) {
		for _, kind := range at {
			for _, every := range at {
				walk.Run(kind, a, b, every)
			}
		}
	})
	for _, long := range [][]int{make([]int, limit+1), make([]int, limit+64), counted(limit+1, 0)} {
		for _, short := range [][]int{nil, {1, 0, limit}} {
			for kind := range kinds {
				for _, every := range []int{0, 1, limit + 1} {
					walk.Run(kind, long, short, every)
					walk.Run(kind, short, long, every)
				}
			}
		}
	}
}

// samples are lists that have something in common, and such that have not.
func samples() [][2][]int {
	return [][2][]int{
		{{1}, {1}}, {{1, 2}, {2, 1}}, {{1, 2, 3, 2}, {1, 2, 4, 3, 2}}, {{5, 5, 5, 5, 5}, {5, 5, 5}}, {{1, 2, 1, 3, 1, 2, 2, 1}, {2, 1, 1, 3, 1, 2, 3}}, {{77, 1}, {1, 77}}, {{77}, {77, 77, 77}}, {{9, 4, 9}, counted(70, 0)}, {counted(70, 0), {9, 4, 9}}, {{1, 7, 1}, slices.Repeat([]int{1, 2}, 64)},
		{{1, 2}, {3}}, {{1, 2, 3}, counted(129, 4)}, {nil, {1}}, {{1}, nil}, {{1, 2, 3}, nil}, {nil, nil},
	}
}

// R4: no call modifies an argument or its spare capacity, and no change of a
// result changes one.
func TestArgumentsStay(t *testing.T) {
	for _, c := range samples() {
		for kind := -1; kind <= kinds; kind++ {
			for _, every := range []int{-1, 0, 1, 2, 3, len(c[0]), highest} {
				a, b := roomy(c[0]), roomy(c[1])
				l, _, _ := walk.Run(kind, a, b, every)
				if !stayed(a, c[0]) || !stayed(b, c[1]) {
					t.Fatalf("R4: %d or %d was modified: %d, %d", c[0], c[1], a[:cap(a)], b[:cap(b)])
				}
				fill(l, api.Pair{I: -7, J: -7})
				fill(append(l, api.Pair{I: -8, J: -8}), api.Pair{I: -8, J: -8})
				if !stayed(a, c[0]) || !stayed(b, c[1]) {
					t.Fatalf("R4: a result shares memory with %d or %d: %d, %d", c[0], c[1], a[:cap(a)], b[:cap(b)])
				}
			}
		}
		check(t, c[0], c[1])
	}
}

// R4 and R5: results, with their spare capacity, are new memory each time:
// whoever changes one, or an argument, changes no other result.
func TestResultsAreNew(t *testing.T) {
	for _, c := range samples() {
		want := byTable(c[0], c[1], common(c[0], c[1]))
		for kind := range kinds {
			for _, every := range fewEverys(len(c[0])) {
				a, b := slices.Clone(c[0]), slices.Clone(c[1])
				first, _, _ := walk.Run(kind, a, b, every)
				second, _, _ := walk.Run(kind, a, b, every)
				for _, with := range []int{-7, -8} {
					fill(first, api.Pair{I: with, J: with})
					first = append(first, api.Pair{I: with, J: with})
				}
				third, _, _ := walk.Run(kind, a, b, every)
				fill(a, -9)
				fill(b, -10)
				for _, l := range [][]api.Pair{second, third} {
					if !slices.Equal(l, want) {
						t.Errorf("R4: Run of kind %d, %d and %d, every %d: %v, then %v", kind, c[0], c[1], every, want, l)
					}
				}
				checkTold(t, c[0], c[1], []int{every}, want)
			}
		}
	}
	for n := range 20 {
		for _, every := range everys(n) {
			first, second := walk.Kept(n, every), walk.Kept(n, every)
			fill(first, -7)
			fill(append(first, -8), -8)
			if third, want := walk.Kept(n, every), multiples(n, every); !slices.Equal(second, want) || !slices.Equal(third, want) {
				t.Errorf("R4: Kept(%d, %d): %d, then %d", n, every, second, third)
			}
		}
	}
}

// R5: answers hang on the arguments alone: the lists may be one piece of
// memory or several, and what was asked before does not matter.
func TestAnswersStay(t *testing.T) {
	whole := []int{1, 1, 2, 1, 1, 2, 3}
	for range 4 {
		check(t, whole, whole)
		check(t, whole[:3], whole[3:])
		check(t, whole[3:], whole[:3])
		check(t, whole[1:5], whole[2:])
		check(t, nil, whole)
		check(t, whole, nil)
		check(t, slices.Clone(whole), whole[2:])
		walk.Run(kinds, whole, whole, 1)
		walk.Run(0, whole, whole, 0)
	}
}

// R5: many goroutines at once, with the same lists and with lists of their
// own.
func TestManyAtOnce(t *testing.T) {
	shared := rand.New(rand.NewSource(225))
	for round := range 30 {
		a, b := some(shared, 40, 5), some(shared, 150, 5)
		var group sync.WaitGroup
		start := make(chan bool)
		faults := make([]string, 8)
		for g := range faults {
			group.Go(func() {
				r := rand.New(rand.NewSource(int64(100*round + g)))
				<-start
				for range 4 {
					c, d := some(r, 20, 3), some(r, 90, 3)
					for _, f := range []string{fault(a, b, fewEverys(len(a))), fault(c, d, everys(len(c)))} {
						if f != "" {
							faults[g] = f
						}
					}
				}
			})
		}
		close(start)
		group.Wait()
		for g, f := range faults {
			if f != "" {
				t.Fatalf("R5: goroutine %d: %s", g, f)
			}
		}
	}
}
