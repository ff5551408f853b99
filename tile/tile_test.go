package tile_test

import (
	"math"
	"math/bits"
	"math/rand"
	"slices"
	"sync"
	"testing"

	"tatting/api"
	"tatting/grid"
	"tatting/tile"
)

const (
	lowest  = math.MinInt
	highest = math.MaxInt
	largest = api.MaxSide
)

// block is what Look is asked for.
type block struct{ eq, top, left int }

// bit returns bit k of x.
func bit(x, k int) int {
	return int(uint64(x) / uint64(math.Pow(2, float64(k))) % 2)
}

// f follows the words of P13.1, number by number.
func f(t int, b block, r, c int) int {
	switch {
	case r == 0 && c == 0:
		return 0
	case r == 0:
		return f(t, b, 0, c-1) + bit(b.top, c-1)
	case c == 0:
		return f(t, b, r-1, 0) + bit(b.left, r-1)
	case bit(b.eq, (r-1)*t+c-1) == 1:
		return f(t, b, r-1, c-1) + 1
	}
	return max(f(t, b, r-1, c), f(t, b, r, c-1))
}

// look follows the words of P13.1.
func look(t int, b block) (bottom, right int) {
	for k := 1; k <= t; k++ {
		bottom += (f(t, b, t, k) - f(t, b, t, k-1)) * []int{1, 2, 4}[k-1]
		right += (f(t, b, k, t) - f(t, b, k-1, t)) * []int{1, 2, 4}[k-1]
	}
	return bottom, right
}

// mostEq and most are the greatest numbers that are allowed for eq, and for
// top and left.
func mostEq(t int) int { return []int{0, 1, 15, 511}[t] }
func most(t int) int   { return []int{0, 1, 3, 7}[t] }

// blocks calls use with every block of side t.
func blocks(t int, use func(block)) {
	for eq := range mostEq(t) + 1 {
		for top := range most(t) + 1 {
			for left := range most(t) + 1 {
				use(block{eq, top, left})
			}
		}
	}
}

// some returns any block of side t.
func some(r *rand.Rand, t int) block {
	return block{r.Intn(mostEq(t) + 1), r.Intn(most(t) + 1), r.Intn(most(t) + 1)}
}

// made returns the blocks of side side.
func made(t *testing.T, side int) *tile.Tiles {
	t.Helper()
	x, e := tile.New(side)
	if e != api.OK || x == nil {
		t.Fatalf("P13.1: New(%d): %v, %d", side, x, e)
	}
	return x
}

// wrong reports whether Look answers otherwise than its words ask, for a block
// that there is.
func wrong(x *tile.Tiles, side int, b block) bool {
	bottom, right, e := x.Look(b.eq, b.top, b.left)
	wantBottom, wantRight := look(side, b)
	return bottom != wantBottom || right != wantRight || e != api.OK
}

// check holds Look against its words for a block that there is.
func check(t *testing.T, x *tile.Tiles, side int, b block) {
	t.Helper()
	if wrong(x, side, b) {
		bottom, right, e := x.Look(b.eq, b.top, b.left)
		wantBottom, wantRight := look(side, b)
		t.Fatalf("P13.1: side %d: Look(%d, %d, %d): %d, %d, %d, not %d, %d", side, b.eq, b.top, b.left, bottom, right, e, wantBottom, wantRight)
	}
}

// checkRefused holds Look against P13.1 and R2 for a block that there is not.
func checkRefused(t *testing.T, x *tile.Tiles, b block) {
	t.Helper()
	if bottom, right, e := x.Look(b.eq, b.top, b.left); bottom != 0 || right != 0 || e != api.EARG {
		t.Fatalf("P13.1, R2: side %d: Look(%d, %d, %d): %d, %d, %d", x.Side(), b.eq, b.top, b.left, bottom, right, e)
	}
}

// checkSide holds Side and Size against P13.1.
func checkSide(t *testing.T, x *tile.Tiles, side int) {
	t.Helper()
	if got, want := x.Size(), []int{0, 8, 256, 32768}[side]; got != want || x.Side() != side {
		t.Fatalf("P13.1: New(%d): Side %d, Size %d", side, x.Side(), got)
	}
}

// P13.1: the examples of the chapter.
func TestExamples(t *testing.T) {
	x := made(t, 1)
	if bottom, right, e := x.Look(1, 0, 0); bottom != 1 || right != 1 || e != api.OK {
		t.Errorf("P13.1: side 1: Look(1, 0, 0): %d, %d, %d", bottom, right, e)
	}
	if bottom, right, e := x.Look(0, 1, 0); bottom != 1 || right != 0 || e != api.OK {
		t.Errorf("P13.1: side 1: Look(0, 1, 0): %d, %d, %d", bottom, right, e)
	}
}

// P13.1 and R2: the sides that New refuses, and that no object comes with the
// error.
func TestNewRefuses(t *testing.T) {
	for _, side := range []int{lowest, lowest + 1, lowest + 3, -1 << 32, 1 - 1<<32, -256, -255, -3, -2, -1, 0, largest + 1, largest + 2, 8, 63, 64, 65, 255, 256, 257, 258, 259, 1 << 16, 1<<16 + 1, 1 << 31, 1 << 32, 1<<32 + 1, 1<<32 + 3, highest - 1, highest} {
		if x, e := tile.New(side); x != nil || e != api.EARG {
			t.Errorf("P13.1, R2: New(%d): %v, %d", side, x, e)
		}
	}
}

// P13.1: the sides that New accepts, and Side and Size of each, before and
// after any Look.
func TestSideAndSize(t *testing.T) {
	for side := 1; side <= largest; side++ {
		x := made(t, side)
		checkSide(t, x, side)
		checkRefused(t, x, block{-1, -1, -1})
		checkSide(t, x, side)
		n := 0
		blocks(side, func(b block) {
			check(t, x, side, b)
			n++
		})
		checkSide(t, x, side)
		if n != x.Size() {
			t.Errorf("P13.1: side %d: Size %d, but there are %d blocks", side, x.Size(), n)
		}
	}
}

// P13.1: blocks with the results told.
func TestLookTold(t *testing.T) {
	for _, c := range []struct {
		side          int
		b             block
		bottom, right int
	}{
		// Side 1: every block.
		{1, block{0, 0, 0}, 0, 0}, {1, block{0, 0, 1}, 0, 1}, {1, block{0, 1, 0}, 1, 0}, {1, block{0, 1, 1}, 0, 0},
		{1, block{1, 0, 0}, 1, 1}, {1, block{1, 0, 1}, 0, 1}, {1, block{1, 1, 0}, 1, 0}, {1, block{1, 1, 1}, 0, 0},

		// Nothing equal, and all equal.
		{2, block{0, 0, 0}, 0, 0}, {2, block{15, 0, 0}, 3, 3}, {2, block{15, 3, 3}, 0, 0}, {2, block{0, 3, 3}, 0, 0}, {2, block{0, 3, 0}, 3, 0}, {2, block{0, 0, 3}, 0, 3}, {2, block{15, 3, 0}, 3, 0}, {2, block{15, 0, 3}, 0, 3},
		{3, block{0, 0, 0}, 0, 0}, {3, block{511, 0, 0}, 7, 7}, {3, block{511, 7, 7}, 0, 0}, {3, block{0, 7, 7}, 0, 0}, {3, block{0, 7, 0}, 7, 0}, {3, block{0, 0, 7}, 0, 7}, {3, block{511, 7, 0}, 7, 0}, {3, block{511, 0, 7}, 0, 7},

		// One position equal: it is first in its row or column, or not.
		{2, block{1, 0, 0}, 1, 1}, {2, block{2, 0, 0}, 2, 1}, {2, block{4, 0, 0}, 1, 2}, {2, block{8, 0, 0}, 2, 2},
		{3, block{1, 0, 0}, 1, 1}, {3, block{4, 0, 0}, 4, 1}, {3, block{64, 0, 0}, 1, 4}, {3, block{256, 0, 0}, 4, 4}, {3, block{2, 0, 0}, 2, 1}, {3, block{8, 0, 0}, 1, 2}, {3, block{32, 0, 0}, 4, 2}, {3, block{128, 0, 0}, 2, 4},

		// Equal positions along either diagonal.
		{2, block{9, 0, 0}, 3, 3}, {2, block{6, 0, 0}, 1, 1}, {3, block{273, 0, 0}, 7, 7}, {3, block{84, 0, 0}, 1, 1},

		// One difference at the top or at the left.
		{2, block{0, 1, 0}, 1, 0}, {2, block{0, 2, 0}, 2, 0}, {2, block{0, 0, 1}, 0, 1}, {2, block{0, 0, 2}, 0, 2}, {2, block{0, 2, 1}, 0, 0}, {2, block{0, 1, 2}, 0, 0},
		{3, block{0, 4, 0}, 4, 0}, {3, block{0, 0, 4}, 0, 4}, {3, block{0, 4, 1}, 0, 0}, {3, block{0, 6, 1}, 4, 0}, {3, block{0, 1, 6}, 0, 4},
	} {
		x := made(t, c.side)
		if bottom, right, e := x.Look(c.b.eq, c.b.top, c.b.left); bottom != c.bottom || right != c.right || e != api.OK {
			t.Errorf("P13.1: side %d: Look(%d, %d, %d): %d, %d, %d, not %d, %d", c.side, c.b.eq, c.b.top, c.b.left, bottom, right, e, c.bottom, c.right)
		}
	}
}

// P13.1 and P13.2: every block of every side.
func TestEveryBlock(t *testing.T) {
	for side := 1; side <= largest; side++ {
		x := made(t, side)
		blocks(side, func(b block) {
			check(t, x, side, b)
			bottom, right, e := x.Look(b.eq, b.top, b.left)
			if bottom < 0 || bottom > most(side) || right < 0 || right > most(side) || e != api.OK {
				t.Fatalf("P13.1: side %d: Look(%d, %d, %d): %d, %d, %d", side, b.eq, b.top, b.left, bottom, right, e)
			}
			if bits.OnesCount(uint(b.top))+bits.OnesCount(uint(right)) != bits.OnesCount(uint(b.left))+bits.OnesCount(uint(bottom)) {
				t.Fatalf("P13.2: side %d: Look(%d, %d, %d): %d, %d", side, b.eq, b.top, b.left, bottom, right)
			}
		})
	}
}

// P13.1: blocks that stand at the beginning of a table of lengths have the
// last differences of that table.
func TestBlocksOfTables(t *testing.T) {
	r := rand.New(rand.NewSource(131))
	for side := 1; side <= largest; side++ {
		x := made(t, side)
		for range 200 {
			a, b := make([]int, side), make([]int, side)
			eq := 0
			for i := range side {
				a[i], b[i] = r.Intn(3), r.Intn(3)
			}
			for k := range side * side {
				if a[k/side] == b[k%side] {
					eq += 1 << k
				}
			}
			bottom, right, e := x.Look(eq, 0, 0)
			if e != api.OK {
				t.Fatalf("P13.1: side %d: Look(%d, 0, 0): %d", side, eq, e)
			}
			for k := range side {
				if bit(bottom, k) != grid.Len(a, b[:k+1])-grid.Len(a, b[:k]) || bit(right, k) != grid.Len(a[:k+1], b)-grid.Len(a[:k], b) {
					t.Fatalf("P13.1: side %d: Look(%d, 0, 0), for %d and %d: %d, %d", side, eq, a, b, bottom, right)
				}
			}
		}
	}
}

// outside are numbers that are allowed for none of eq, top and left, beside
// those next to the greatest that is allowed.
var outside = []int{lowest, lowest + 1, lowest + 7, -1 << 32, 1 - 1<<32, -512, -8, -7, -4, -2, -1, 512, 513, 1 << 15, 1 << 16, 1 << 31, 1 << 32, 1<<32 + 1, 1 << 62, highest - 1, highest}

// P13.1 and R2: eq, top and left at 0, at the greatest number, one beyond it,
// below 0 and at the ends of the range of an int: each alone, and several at
// once.
func TestLookEdges(t *testing.T) {
	for side := 1; side <= largest; side++ {
		x := made(t, side)
		eqs := slices.Concat(outside, []int{0, 1, mostEq(side), mostEq(side) + 1, mostEq(side) + 2})
		ends := slices.Concat(outside, []int{0, 1, most(side), most(side) + 1, most(side) + 2})
		for _, eq := range eqs {
			for _, top := range ends {
				for _, left := range ends {
					b := block{eq, top, left}
					if 0 <= eq && eq <= mostEq(side) && 0 <= top && top <= most(side) && 0 <= left && left <= most(side) {
						check(t, x, side, b)
					} else {
						checkRefused(t, x, b)
					}
				}
			}
		}
	}
}

// P13.1: the greatest number of a side is allowed, and the next one, which a
// greater side has, is not.
func TestLookEndsWithItsSide(t *testing.T) {
	for side := 1; side <= largest; side++ {
		x := made(t, side)
		for _, b := range []block{{mostEq(side), 0, 0}, {0, most(side), 0}, {0, 0, most(side)}, {mostEq(side), most(side), most(side)}, {0, 0, 0}} {
			check(t, x, side, b)
		}
		for _, b := range []block{{mostEq(side) + 1, 0, 0}, {0, most(side) + 1, 0}, {0, 0, most(side) + 1}, {mostEq(side) + 1, most(side) + 1, most(side) + 1}, {mostEq(side), most(side) + 1, 0}, {0, most(side), most(side) + 1}} {
			checkRefused(t, x, b)
		}
	}
}

// Ways: many goroutines that ask at the same time get the same answers, the
// first ones too.
func TestManyAtOnce(t *testing.T) {
	for round := range 60 {
		side := round%largest + 1
		x := made(t, side)
		var group sync.WaitGroup
		start := make(chan bool)
		bad := make([]int, 8)
		for g := range bad {
			group.Go(func() {
				r := rand.New(rand.NewSource(int64(100*round + g)))
				<-start
				if g%4 == 3 {
					x.Look(-1, 0, 0)
				}
				for range 50 {
					if wrong(x, side, some(r, side)) || x.Side() != side || x.Size() != 1<<(side*side+2*side) {
						bad[g]++
					}
				}
			})
		}
		close(start)
		group.Wait()
		for g, n := range bad {
			if n > 0 {
				t.Fatalf("Ways: side %d: %d wrong answers to goroutine %d", side, n, g)
			}
		}
	}
}

// Ways: once the blocks are computed, a call needs no memory.
func TestLaterCallsTakeNoMemory(t *testing.T) {
	for side := 1; side <= largest; side++ {
		x := made(t, side)
		x.Look(0, 0, 0)
		if n := testing.AllocsPerRun(100, func() { x.Look(mostEq(side), most(side), 0) }); n != 0 {
			t.Errorf("Ways: side %d: a later Look takes memory %v times", side, n)
		}
	}
}

// R1: no arguments make a call panic.
func TestNoPanic(t *testing.T) {
	numbers := slices.Concat(outside, []int{0, 1, 2, 3, 4, 5, 6, 7, 8, 15, 16, 17, 63, 64, 65, 255, 256, 511})
	for _, side := range numbers {
		x, e := tile.New(side)
		if e != api.OK {
			continue
		}
		x.Side()
		x.Size()
		for _, eq := range numbers {
			for _, top := range numbers {
				for _, left := range numbers {
					x.Look(eq, top, left)
				}
			}
		}
	}
}

// R3 and R5: a Look that is refused, first or between others, changes no
// answer.
func TestRefusedLookHasNoEffect(t *testing.T) {
	r := rand.New(rand.NewSource(132))
	for side := 1; side <= largest; side++ {
		for _, refused := range []block{{-1, 0, 0}, {mostEq(side) + 1, 0, 0}, {0, -1, 0}, {0, most(side) + 1, 0}, {0, 0, -1}, {0, 0, most(side) + 1}, {lowest, highest, lowest}} {
			x := made(t, side)
			for range 20 {
				checkRefused(t, x, refused)
				check(t, x, side, some(r, side))
			}
			checkSide(t, x, side)
		}
	}
}

// R5: the same Look has the same answer, whatever was asked between.
func TestAnswersStay(t *testing.T) {
	r := rand.New(rand.NewSource(133))
	for side := 1; side <= largest; side++ {
		x := made(t, side)
		for range 300 {
			b := some(r, side)
			check(t, x, side, b)
			check(t, x, side, b)
			check(t, x, side, some(r, side))
			check(t, x, side, b)
		}
	}
}

// R4 and R5: two Tiles, of the same side or of others, do not touch one
// another, in whatever order they are made and asked.
func TestObjectsShareNothing(t *testing.T) {
	r := rand.New(rand.NewSource(134))
	for one := 1; one <= largest; one++ {
		for two := 1; two <= largest; two++ {
			x := made(t, one)
			check(t, x, one, some(r, one))
			y := made(t, two)
			if x == y {
				t.Fatalf("R4: New(%d) and New(%d) return the same object", one, two)
			}
			tile.New(0)
			for range 100 {
				check(t, x, one, some(r, one))
				check(t, y, two, some(r, two))
			}
			checkRefused(t, x, block{mostEq(one) + 1, 0, 0})
			check(t, y, two, block{mostEq(two), most(two), most(two)})
			checkSide(t, x, one)
			checkSide(t, y, two)
		}
	}
}
