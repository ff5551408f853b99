package delta_test

import (
	"bytes"
	"math"
	"math/big"
	"math/rand"
	"slices"
	"testing"

	"tatting/api"
	"tatting/delta"
	"tatting/grid"
	"tatting/rows"
)

const (
	lowest  = math.MinInt
	highest = math.MaxInt
	limit   = api.MaxTokens
	side    = api.MaxSide
)

// places are numbers for at: below 0, within short lists, at their ends,
// beyond them, and at the ends of the range of an int.
var places = []int{lowest, lowest + 1, lowest + 2, lowest + 3, -1 << 32, -4, -3, -2, -1, 0, 1, 2, 3, 4, 5, 6, 7, 8, 9, 1 << 31, 1 << 32, 1<<32 + 1, highest - 3, highest - 2, highest - 1, highest}

// sides are numbers for t, allowed or not.
var sides = []int{lowest, lowest + 1, -1 << 32, 1 - 1<<32, -3, -2, -1, 0, 1, 2, 3, 4, 5, 8, 63, 64, 65, 1<<32 + 1, highest - 1, highest}

// keys are numbers with few bits, with all of them, with bits beyond every t,
// and below 0.
var keys = []int{0, 1, 2, 3, 4, 5, 6, 7, 8, 9, 10, 15, 1 << 31, 1 << 32, 1<<32 + 5, highest, highest - 1, -1, -2, -3, -4, -5, -6, -8, lowest, lowest + 2, lowest + 5}

// of follows the words of P12.1, with differences of numbers without bounds.
func of(row []int) ([]byte, api.Errno) {
	if len(row) == 0 {
		return nil, api.EARG
	}
	var d []byte
	for i := 1; i < len(row); i++ {
		difference := new(big.Int).Sub(big.NewInt(int64(row[i])), big.NewInt(int64(row[i-1])))
		switch difference.String() {
		case "0":
			d = append(d, 0)
		case "1":
			d = append(d, 1)
		default:
			return nil, api.EARG
		}
	}
	return d, api.OK
}

// row follows the words of P12.1: each number is the first one and the count
// of bytes other than 0 before it, modulo 2^64.
func row(first int, d []byte) []int {
	l := []int{first}
	for i := range d {
		zeros := bytes.Count(d[:i+1], []byte{0})
		l = append(l, int(uint64(first)+uint64(i+1-zeros)))
	}
	return l
}

// bitOf returns the k for which index i of d is at + k, and whether there is
// one from 0 to t - 1, with at and t allowed.
func bitOf(i, at, t int) (int, bool) {
	if at < 0 || t < 1 || t > side {
		return 0, false
	}
	k := i - at
	return k, 0 <= k && k <= t-1
}

// key follows the words of P12.1.
func key(d []byte, at, t int) int {
	sum := 0
	for i, b := range d {
		if k, is := bitOf(i, at, t); is && b != 0 {
			sum += []int{1, 2, 4}[k]
		}
	}
	return sum
}

// put follows the words of P12.1.
func put(d []byte, at, t, key int) []byte {
	var l []byte
	for i, b := range d {
		if k, is := bitOf(i, at, t); is {
			b = byte(big.NewInt(int64(key)).Bit(k))
		}
		l = append(l, b)
	}
	return l
}

// lists calls use with every list of up to length of the given elements.
func lists[T any](elements []T, length int, use func([]T)) {
	last := [][]T{nil}
	use(nil)
	for range length {
		var next [][]T
		for _, l := range last {
			for _, e := range elements {
				next = append(next, append(slices.Clone(l), e))
			}
		}
		for _, l := range next {
			use(l)
		}
		last = next
	}
}

// steps returns n bytes, each 0 or 1.
func steps(r *rand.Rand, n int) []byte {
	d := make([]byte, n)
	for i := range d {
		d[i] = byte(r.Intn(2))
	}
	return d
}

// some returns up to length numbers out of few, about 0.
func some(r *rand.Rand, length, kinds int) []int {
	l := make([]int, r.Intn(length+1))
	for i := range l {
		l[i] = r.Intn(kinds) - kinds/2
	}
	return l
}

// fill overwrites a list and its spare capacity.
func fill[T any](l []T, with T) {
	l = l[:cap(l)]
	for i := range l {
		l[i] = with
	}
}

// checkOf holds Of against its words, and R2: no steps come with an error.
func checkOf(t *testing.T, row []int) {
	t.Helper()
	want, wantE := of(row)
	if got, e := delta.Of(row); e != wantE || !bytes.Equal(got, want) {
		t.Fatalf("P12.1: Of(%d): %d, %d, not %d, %d", row, got, e, want, wantE)
	}
}

// checkRow holds Row against its words.
func checkRow(t *testing.T, first int, d []byte) {
	t.Helper()
	if got, want := delta.Row(first, d), row(first, d); !slices.Equal(got, want) {
		t.Fatalf("P12.1: Row(%d, %d): %d, not %d", first, d, got, want)
	}
}

// checkKey holds Key against its words.
func checkKey(t *testing.T, d []byte, at, side int) {
	t.Helper()
	if got, want := delta.Key(d, at, side), key(d, at, side); got != want {
		t.Fatalf("P12.1: Key(%d, %d, %d): %d, not %d", d, at, side, got, want)
	}
}

// checkPut holds Put against its words, byte by byte.
func checkPut(t *testing.T, d []byte, at, side, key int) {
	t.Helper()
	if got, want := delta.Put(d, at, side, key), put(d, at, side, key); !bytes.Equal(got, want) {
		t.Fatalf("P12.1: Put(%d, %d, %d, %d): %d, not %d", d, at, side, key, got, want)
	}
}

// checkBack encodes a row that can be encoded, and decodes it again.
func checkBack(t *testing.T, row []int) {
	t.Helper()
	d, e := delta.Of(row)
	if e != api.OK || len(d) != len(row)-1 {
		t.Fatalf("P12.2: Of(%d): %d, %d", row, d, e)
	}
	if got := delta.Row(row[0], d); !slices.Equal(got, row) {
		t.Fatalf("P12.2: Row of Of(%d): %d", row, got)
	}
}

// checkForth decodes steps of 0 and 1, and encodes them again.
func checkForth(t *testing.T, first int, d []byte) {
	t.Helper()
	row := delta.Row(first, d)
	if got, e := delta.Of(row); e != api.OK || !bytes.Equal(got, d) {
		t.Fatalf("P12.2: Of of Row(%d, %d): %d, %d", first, d, got, e)
	}
}

// checkTable holds every row of the table of two lists against P12.2.
func checkTable(t *testing.T, a, b []int) {
	t.Helper()
	for i := range len(a) + 1 {
		row := rows.Front(a[:i], b)
		checkOf(t, row)
		checkBack(t, row)
	}
}

// P12.1: the examples of the chapter.
func TestExamples(t *testing.T) {
	if d, e := delta.Of([]int{3, 3, 4}); e != api.OK || !bytes.Equal(d, []byte{0, 1}) {
		t.Errorf("P12.1: Of(3 3 4): %d, %d", d, e)
	}
	if k := delta.Key([]byte{1, 0, 1}, 0, 3); k != 5 {
		t.Errorf("P12.1: Key(1 0 1, 0, 3): %d", k)
	}
	if k := delta.Key([]byte{1, 1}, 1, 3); k != 1 {
		t.Errorf("P12.1: Key(1 1, 1, 3): %d", k)
	}
}

// P12.1 and R2: the edges of Of, with the result told.
func TestOfEdges(t *testing.T) {
	for _, c := range []struct {
		row  []int
		want []byte
		e    api.Errno
	}{
		// No number, and a single one.
		{nil, nil, api.EARG}, {[]int{}, nil, api.EARG}, {[]int{3, 4}[:0], nil, api.EARG},
		{[]int{0}, nil, api.OK}, {[]int{7}, nil, api.OK}, {[]int{-7}, nil, api.OK}, {[]int{lowest}, nil, api.OK}, {[]int{highest}, nil, api.OK},

		// Rows that rise by 0 and 1.
		{[]int{0, 0}, []byte{0}, api.OK}, {[]int{0, 1}, []byte{1}, api.OK}, {[]int{0, 1, 2, 2, 3}, []byte{1, 1, 0, 1}, api.OK},
		{[]int{5, 5, 5}, []byte{0, 0}, api.OK}, {[]int{-2, -1, 0, 0, 1}, []byte{1, 1, 0, 1}, api.OK}, {[]int{-9, -9, -8}, []byte{0, 1}, api.OK},
		{[]int{1<<31 - 1, 1 << 31}, []byte{1}, api.OK}, {[]int{1<<32 - 1, 1 << 32, 1 << 32}, []byte{1, 0}, api.OK},

		// Rows that fall, or rise by 2 and more.
		{[]int{3, 2}, nil, api.EARG}, {[]int{3, 1}, nil, api.EARG}, {[]int{0, -1}, nil, api.EARG}, {[]int{-1, -2}, nil, api.EARG}, {[]int{1, -1}, nil, api.EARG},
		{[]int{3, 5}, nil, api.EARG}, {[]int{3, 6}, nil, api.EARG}, {[]int{-1, 1}, nil, api.EARG}, {[]int{-5, 5}, nil, api.EARG},
		{[]int{0, 256}, nil, api.EARG}, {[]int{0, 257}, nil, api.EARG}, {[]int{0, 1 << 32}, nil, api.EARG}, {[]int{0, 1<<32 + 1}, nil, api.EARG}, {[]int{256, 0}, nil, api.EARG}, {[]int{255, 0}, nil, api.EARG},

		// A fault at the first step, at the last one, and between them.
		{[]int{0, 2, 2, 3, 3}, nil, api.EARG}, {[]int{1, 0, 0, 1, 1}, nil, api.EARG}, {[]int{0, 1, 1, 2, 4}, nil, api.EARG}, {[]int{0, 1, 1, 2, 1}, nil, api.EARG},
		{[]int{0, 0, 2, 2, 3}, nil, api.EARG}, {[]int{0, 1, 0, 1, 2}, nil, api.EARG}, {[]int{2, 1, 0, -1}, nil, api.EARG},

		// The least and the greatest number, beside each other and beside
		// those next to them.
		{[]int{highest, lowest}, nil, api.EARG}, {[]int{lowest, highest}, nil, api.EARG}, {[]int{0, 1, highest, lowest}, nil, api.EARG},
		{[]int{highest - 1, highest, lowest}, nil, api.EARG}, {[]int{highest, highest, lowest, lowest}, nil, api.EARG}, {[]int{highest, lowest + 1}, nil, api.EARG},
		{[]int{highest - 1, highest}, []byte{1}, api.OK}, {[]int{highest - 1, highest - 1, highest, highest}, []byte{0, 1, 0}, api.OK}, {[]int{highest - 2, highest}, nil, api.EARG}, {[]int{highest, highest - 1}, nil, api.EARG},
		{[]int{lowest, lowest + 1}, []byte{1}, api.OK}, {[]int{lowest, lowest, lowest + 1, lowest + 2}, []byte{0, 1, 1}, api.OK}, {[]int{lowest, lowest + 2}, nil, api.EARG}, {[]int{lowest + 1, lowest}, nil, api.EARG},
		{[]int{highest, highest}, []byte{0}, api.OK}, {[]int{lowest, lowest}, []byte{0}, api.OK}, {[]int{lowest, 0}, nil, api.EARG}, {[]int{0, lowest}, nil, api.EARG}, {[]int{highest, 0}, nil, api.EARG}, {[]int{-1, highest}, nil, api.EARG},
	} {
		if got, e := delta.Of(c.row); e != c.e || !bytes.Equal(got, c.want) {
			t.Errorf("P12.1: Of(%d): %d, %d, not %d, %d", c.row, got, e, c.want, c.e)
		}
	}
}

// P12.1 and P12.2: every short row.
func TestOfAllShortRows(t *testing.T) {
	for _, elements := range [][]int{{-1, 0, 1, 2}, {lowest, lowest + 1, highest - 1, highest}, {0, 1, 255, 256}} {
		lists(elements, 5, func(row []int) {
			checkOf(t, row)
			if _, e := delta.Of(row); e == api.OK {
				checkBack(t, row)
			}
		})
	}
}

// P12.1: a longer row with a single fault, at each of its steps.
func TestOfFindsEveryFault(t *testing.T) {
	r := rand.New(rand.NewSource(121))
	for range 60 {
		good := row(r.Intn(9)-4, steps(r, 1+r.Intn(70)))
		checkOf(t, good)
		for i := 1; i < len(good); i++ {
			for _, by := range []int{-2, -1, 2, 3, 256, 1 << 32} {
				bad := slices.Clone(good)
				for k := i; k < len(bad); k++ {
					bad[k] += good[i-1] - good[i] + by
				}
				if d, e := delta.Of(bad); e != api.EARG || len(d) != 0 {
					t.Fatalf("P12.1: Of(%d), a step of %d at %d: %d, %d", bad, by, i, d, e)
				}
			}
		}
	}
}

// P12.1: the edges of Row, with the result told.
func TestRowEdges(t *testing.T) {
	for _, c := range []struct {
		first int
		d     []byte
		want  []int
	}{
		// No steps.
		{0, nil, []int{0}}, {5, []byte{}, []int{5}}, {-5, nil, []int{-5}}, {highest, nil, []int{highest}}, {lowest, nil, []int{lowest}},

		{0, []byte{0}, []int{0, 0}}, {0, []byte{1}, []int{0, 1}}, {3, []byte{0, 1}, []int{3, 3, 4}}, {3, []byte{1, 0}, []int{3, 4, 4}}, {0, []byte{1, 1, 0, 1}, []int{0, 1, 2, 2, 3}},

		// Bytes other than 0 and 1 are steps of 1.
		{0, []byte{2}, []int{0, 1}}, {0, []byte{255}, []int{0, 1}}, {5, []byte{0, 1, 9, 0, 128, 254}, []int{5, 5, 6, 7, 7, 8, 9}},

		// First numbers below 0.
		{-1, []byte{1, 1, 0}, []int{-1, 0, 1, 1}}, {-3, []byte{0, 1, 7}, []int{-3, -3, -2, -1}},

		// The greatest and the least number: a step from the greatest one
		// wraps round.
		{highest, []byte{0}, []int{highest, highest}}, {highest, []byte{1}, []int{highest, lowest}}, {highest, []byte{0, 3, 0, 1}, []int{highest, highest, lowest, lowest, lowest + 1}},
		{highest - 1, []byte{1, 0}, []int{highest - 1, highest, highest}}, {highest - 1, []byte{1, 1, 1}, []int{highest - 1, highest, lowest, lowest + 1}},
		{lowest, []byte{0, 1}, []int{lowest, lowest, lowest + 1}}, {lowest, []byte{200, 1}, []int{lowest, lowest + 1, lowest + 2}},
		{1<<31 - 1, []byte{1}, []int{1<<31 - 1, 1 << 31}}, {1<<32 - 1, []byte{1}, []int{1<<32 - 1, 1 << 32}},
	} {
		if got := delta.Row(c.first, c.d); !slices.Equal(got, c.want) {
			t.Errorf("P12.1: Row(%d, %d): %d, not %d", c.first, c.d, got, c.want)
		}
	}
}

// P12.1: Row of every short list of bytes, and of longer ones.
func TestRowOfManySteps(t *testing.T) {
	firsts := []int{lowest, lowest + 1, -7, -1, 0, 1, 50, highest - 2, highest - 1, highest}
	for _, first := range firsts {
		lists([]byte{0, 1, 2, 255}, 5, func(d []byte) {
			checkRow(t, first, d)
		})
		for b := range 256 {
			checkRow(t, first, []byte{byte(b)})
		}
	}
	r := rand.New(rand.NewSource(122))
	for range 300 {
		d := make([]byte, r.Intn(200))
		r.Read(d)
		for _, first := range firsts {
			checkRow(t, first, d)
			checkRow(t, first, steps(r, len(d)))
		}
	}
}

// P12.1: the edges of Key, with the result told.
func TestKeyEdges(t *testing.T) {
	d := []byte{1, 0, 1, 255, 0, 2}
	for _, c := range []struct{ at, t, want int }{
		// at below 0.
		{-1, 1, 0}, {-1, 2, 0}, {-1, 3, 0}, {-2, 3, 0}, {-3, 3, 0}, {lowest, 1, 0}, {lowest, 3, 0}, {lowest + 1, 2, 0}, {lowest + 2, 3, 0},

		// At the beginning, within, and before the end.
		{0, 1, 1}, {0, 2, 1}, {0, 3, 5}, {1, 1, 0}, {1, 2, 2}, {1, 3, 6}, {2, 1, 1}, {2, 2, 3}, {2, 3, 3}, {3, 1, 1}, {3, 2, 1}, {3, 3, 5}, {4, 1, 0}, {4, 2, 2}, {5, 1, 1},

		// Beyond the end, in part and in whole.
		{4, 3, 2}, {5, 2, 1}, {5, 3, 1}, {6, 1, 0}, {6, 2, 0}, {6, 3, 0}, {7, 1, 0}, {7, 3, 0}, {100, 3, 0}, {1 << 32, 3, 0}, {highest - 3, 3, 0}, {highest - 2, 3, 0}, {highest - 1, 3, 0}, {highest, 1, 0}, {highest, 3, 0},

		// Sides that are not allowed.
		{0, 0, 0}, {0, -1, 0}, {0, -3, 0}, {0, lowest, 0}, {0, side, 5}, {0, side + 1, 0}, {2, 4, 0}, {3, 4, 0}, {5, 4, 0}, {0, 6, 0}, {0, 64, 0}, {0, 1<<32 + 1, 0}, {0, highest, 0}, {1, highest, 0}, {highest, highest, 0}, {lowest, lowest, 0}, {-1, 4, 0},
	} {
		if got := delta.Key(d, c.at, c.t); got != c.want {
			t.Errorf("P12.1: Key(%d, %d, %d): %d, not %d", d, c.at, c.t, got, c.want)
		}
		if got := delta.Key(nil, c.at, c.t); got != 0 {
			t.Errorf("P12.1: Key(none, %d, %d): %d", c.at, c.t, got)
		}
		if got := delta.Key(d[:0], c.at, c.t); got != 0 {
			t.Errorf("P12.1: Key of no bytes with spare capacity, %d, %d: %d", c.at, c.t, got)
		}
	}
}

// P12.1: the edges of Put, with the result told: all bytes but the replaced
// ones are as they were.
func TestPutEdges(t *testing.T) {
	d := []byte{1, 0, 1, 255, 0, 2}
	for _, c := range []struct {
		at, t, key int
		want       []byte
	}{
		// at below 0.
		{-1, 1, 0, d}, {-1, 3, 7, d}, {-2, 3, 0, d}, {-3, 3, 7, d}, {lowest, 1, 0, d}, {lowest, 3, 7, d}, {lowest + 2, 3, 0, d},

		// At the beginning, within, and before the end.
		{0, 1, 0, []byte{0, 0, 1, 255, 0, 2}}, {0, 1, 1, d}, {0, 2, 2, []byte{0, 1, 1, 255, 0, 2}}, {0, 3, 2, []byte{0, 1, 0, 255, 0, 2}}, {0, 3, 4, []byte{0, 0, 1, 255, 0, 2}},
		{1, 2, 3, []byte{1, 1, 1, 255, 0, 2}}, {1, 3, 7, []byte{1, 1, 1, 1, 0, 2}}, {2, 2, 0, []byte{1, 0, 0, 0, 0, 2}}, {3, 1, 1, []byte{1, 0, 1, 1, 0, 2}}, {3, 3, 5, []byte{1, 0, 1, 1, 0, 1}}, {5, 1, 0, []byte{1, 0, 1, 255, 0, 0}},

		// Beyond the end, in part and in whole.
		{4, 3, 7, []byte{1, 0, 1, 255, 1, 1}}, {5, 2, 2, []byte{1, 0, 1, 255, 0, 0}}, {5, 3, 1, []byte{1, 0, 1, 255, 0, 1}}, {6, 1, 1, d}, {6, 3, 7, d}, {7, 3, 7, d}, {100, 3, 7, d}, {1 << 32, 3, 7, d}, {highest - 2, 3, 7, d}, {highest - 1, 3, 7, d}, {highest, 3, 7, d}, {highest, 1, 0, d},

		// Sides that are not allowed.
		{0, 0, 0, d}, {0, 0, 7, d}, {0, -1, 0, d}, {0, lowest, 0, d}, {0, side, 0, []byte{0, 0, 0, 255, 0, 2}}, {0, side + 1, 0, d}, {2, 4, 15, d}, {5, 4, 0, d}, {0, 6, 0, d}, {0, 1<<32 + 1, 0, d}, {0, highest, 0, d}, {1, highest, 7, d}, {highest, highest, 0, d}, {lowest, lowest, 0, d}, {-1, 4, 0, d},

		// Keys below 0, and with bits beyond the side, which do not count.
		{0, 3, -1, []byte{1, 1, 1, 255, 0, 2}}, {0, 3, -2, []byte{0, 1, 1, 255, 0, 2}}, {0, 3, -8, []byte{0, 0, 0, 255, 0, 2}}, {0, 3, lowest, []byte{0, 0, 0, 255, 0, 2}}, {0, 3, lowest + 5, d}, {0, 3, highest, []byte{1, 1, 1, 255, 0, 2}},
		{0, 1, 2, []byte{0, 0, 1, 255, 0, 2}}, {0, 1, 3, d}, {1, 2, 4, []byte{1, 0, 0, 255, 0, 2}}, {3, 1, 6, []byte{1, 0, 1, 0, 0, 2}}, {3, 3, 8, []byte{1, 0, 1, 0, 0, 0}}, {3, 2, 1<<32 + 2, []byte{1, 0, 1, 0, 1, 2}}, {3, 3, 256, []byte{1, 0, 1, 0, 0, 0}},
	} {
		if got := delta.Put(d, c.at, c.t, c.key); !bytes.Equal(got, c.want) {
			t.Errorf("P12.1: Put(%d, %d, %d, %d): %d, not %d", d, c.at, c.t, c.key, got, c.want)
		}
		if got := delta.Put(nil, c.at, c.t, c.key); len(got) != 0 {
			t.Errorf("P12.1: Put(none, %d, %d, %d): %d", c.at, c.t, c.key, got)
		}
		if got := delta.Put(d[:0], c.at, c.t, c.key); len(got) != 0 {
			t.Errorf("P12.1: Put of no bytes with spare capacity, %d, %d, %d: %d", c.at, c.t, c.key, got)
		}
	}
}

// P12.1: Key and Put of every short list of bytes, at all places, with all
// sides and keys.
func TestKeyAndPutOfAllShortLists(t *testing.T) {
	lists([]byte{0, 1, 254}, 4, func(d []byte) {
		for _, at := range places {
			for _, side := range sides {
				checkKey(t, d, at, side)
				for _, key := range keys {
					checkPut(t, d, at, side, key)
				}
			}
		}
	})
}

// P12.1: every byte is what it is: 0, or not 0, and a byte that is not
// replaced is not made a 1.
func TestEveryByte(t *testing.T) {
	for b := range 256 {
		d := bytes.Repeat([]byte{byte(b)}, 7)
		for at := -3; at <= 9; at++ {
			for side := -1; side <= 4; side++ {
				checkKey(t, d, at, side)
				for key := -9; key <= 9; key++ {
					checkPut(t, d, at, side, key)
				}
			}
		}
	}
}

// P12.1: longer lists, at every place.
func TestKeyAndPutOfLongerLists(t *testing.T) {
	r := rand.New(rand.NewSource(123))
	for range 40 {
		d := steps(r, r.Intn(80))
		if r.Intn(2) == 0 {
			r.Read(d)
		}
		for at := range len(d) + 4 {
			for side := range 5 {
				checkKey(t, d, at, side)
				for key := range 9 {
					checkPut(t, d, at, side, key)
				}
			}
		}
	}
}

// P12.1: Key finds what Put put: as much of it as the list has room for; and
// putting what Key found leaves bytes of 0 and 1 as they were.
func TestKeyOfPut(t *testing.T) {
	lists([]byte{0, 1}, 6, func(d []byte) {
		for at := range len(d) + 3 {
			for side := 1; side <= api.MaxSide; side++ {
				if got := delta.Put(d, at, side, delta.Key(d, at, side)); !bytes.Equal(got, d) {
					t.Fatalf("P12.1: Put of Key(%d, %d, %d): %d", d, at, side, got)
				}
				room := max(0, min(side, len(d)-at))
				for key := range 1 << side {
					if got, want := delta.Key(delta.Put(d, at, side, key), at, side), key&(1<<room-1); got != want {
						t.Fatalf("P12.1: Key of Put(%d, %d, %d, %d): %d, not %d", d, at, side, key, got, want)
					}
				}
			}
		}
	})
}

// P12.2: all rows of the tables of all short lists.
func TestTablesOfAllShortLists(t *testing.T) {
	lists([]int{1, 2, 3}, 4, func(a []int) {
		lists([]int{1, 2, 3}, 4, func(b []int) {
			checkTable(t, a, b)
		})
	})
	lists([]int{lowest, highest}, 6, func(a []int) {
		lists([]int{lowest, highest}, 6, func(b []int) {
			checkTable(t, a, b)
		})
	})
}

// P12.2: all rows of the tables of longer lists, which the table of chapter 8
// has too.
func TestTablesOfLongerLists(t *testing.T) {
	r := rand.New(rand.NewSource(124))
	for range 60 {
		kinds := 1 + r.Intn(9)
		a, b := some(r, 40, kinds), some(r, 60, kinds)
		checkTable(t, a, b)
		checkTable(t, b, a)
		checkTable(t, a, a)
		for _, row := range grid.Ahead(a, b) {
			checkBack(t, row)
		}
	}
}

// P12.2: steps that are decoded and encoded again, wherever the row begins, if
// it does not go beyond the greatest number.
func TestForthAndBack(t *testing.T) {
	for _, first := range []int{lowest, lowest + 1, -3, -1, 0, 1, 50, 1<<31 - 2, 1<<32 - 2, highest - 9, highest - 8} {
		lists([]byte{0, 1}, 8, func(d []byte) {
			checkForth(t, first, d)
			checkBack(t, delta.Row(first, d))
		})
	}
	checkForth(t, highest-3, []byte{1, 0, 1, 1, 0})
	checkForth(t, highest, []byte{0, 0, 0})
	r := rand.New(rand.NewSource(125))
	for range 500 {
		d := steps(r, r.Intn(300))
		checkForth(t, r.Intn(99)-50, d)
		checkForth(t, lowest+r.Intn(3), d)
		checkForth(t, highest-len(d), d)
	}
}

// P12.1: a row that goes beyond the greatest number is no row that can be
// encoded, and bytes other than 0 and 1 are encoded as 1.
func TestForthWithoutBack(t *testing.T) {
	for _, c := range []struct {
		first int
		d     []byte
	}{
		{highest, []byte{1}}, {highest, []byte{0, 0, 1, 0}}, {highest - 1, []byte{1, 1}}, {highest - 2, []byte{0, 1, 1, 9, 1}},
	} {
		if d, e := delta.Of(delta.Row(c.first, c.d)); e != api.EARG || len(d) != 0 {
			t.Errorf("P12.1: Of of Row(%d, %d): %d, %d", c.first, c.d, d, e)
		}
	}
	if d, e := delta.Of(delta.Row(0, []byte{0, 2, 255, 1})); e != api.OK || !bytes.Equal(d, []byte{0, 1, 1, 1}) {
		t.Errorf("P12.1: Of of Row(0, 0 2 255 1): %d, %d", d, e)
	}
}

// P12.1 and P12.2 at the limit.
func TestLimit(t *testing.T) {
	d := make([]byte, limit)
	for i := range d {
		d[i] = byte(i % 7 & 1)
	}
	row := delta.Row(-5, d)
	if len(row) != limit+1 || row[0] != -5 || row[limit] != -5+bytes.Count(d, []byte{1}) {
		t.Fatalf("P12.1: Row of %d bytes: %d numbers", limit, len(row))
	}
	// The row has one number more than the limit, so each part at the limit is
	// encoded.
	for from := range 2 {
		part := row[from : from+limit]
		got, e := delta.Of(part)
		if e != api.OK || !bytes.Equal(got, d[from:from+limit-1]) {
			t.Errorf("P12.1: Of %d numbers: %d bytes, %d", limit, len(got), e)
		}
		if !slices.Equal(delta.Row(part[0], got), part) {
			t.Errorf("P12.2: Row of Of %d numbers", limit)
		}
	}
	last := slices.Clone(row[:limit])
	last[limit-1] += 2
	if got, e := delta.Of(last); e != api.EARG || len(got) != 0 {
		t.Errorf("P12.1: Of %d numbers with a fault at the last one: %d bytes, %d", limit, len(got), e)
	}
	for _, at := range []int{0, 1, limit / 2, limit - 4, limit - 3, limit - 2, limit - 1, limit, limit + 1} {
		for side := range 5 {
			checkKey(t, d, at, side)
		}
	}
	for _, at := range []int{0, limit - 2, limit} {
		if got := delta.Put(d, at, 3, 2); !bytes.Equal(got, put(d, at, 3, 2)) {
			t.Errorf("P12.1: Put into %d bytes at %d", limit, at)
		}
	}
}

// R1: no arguments make a call panic, also above the limit.
func TestNoPanic(t *testing.T) {
	lists([]int{lowest, -1, 0, 1, highest}, 4, func(row []int) {
		delta.Of(row)
	})
	long := make([]byte, limit+3)
	for _, d := range [][]byte{nil, {}, {0}, {255}, {1, 2, 3, 4, 5}, long} {
		for _, at := range append([]int{len(d) - 1, len(d), len(d) + 1}, places...) {
			for _, side := range sides {
				delta.Key(d, at, side)
			}
		}
		for _, first := range []int{lowest, -1, 0, highest} {
			delta.Row(first, d)
		}
	}
	for _, at := range []int{lowest, -1, 0, limit, limit + 2, limit + 3, highest} {
		for _, side := range []int{lowest, 0, 3, highest} {
			delta.Put(long, at, side, -1)
		}
	}
	delta.Of(make([]int, limit+3))
	delta.Of(delta.Row(highest-3, bytes.Repeat([]byte{1}, limit+3)))
}

// R4: no call modifies an argument or its spare capacity, which is no part of
// a list, and no change of a result changes one.
func TestArgumentsStay(t *testing.T) {
	row, d := []int{-1, 0, 0, 1, 2, 2, 9, 4}, []byte{1, 0, 255, 0, 1, 7, 0}
	keptRow, keptD := slices.Clone(row), slices.Clone(d)
	for n := range len(row) + 1 {
		checkOf(t, row[:n])
		got, _ := delta.Of(row[:n])
		fill(got, 77)
		if !slices.Equal(row, keptRow) {
			t.Fatalf("R4: a row was modified: %d", row)
		}
	}
	for n := range len(d) + 1 {
		checkRow(t, 3, d[:n])
		fill(delta.Row(3, d[:n]), -7)
		for at := -2; at <= n+2; at++ {
			for side := range 5 {
				checkKey(t, d[:n], at, side)
				checkPut(t, d[:n], at, side, 5)
				fill(delta.Put(d[:n], at, side, 2), 77)
				fill(append(delta.Put(d[:n], at, side, 2), 78), 78)
				if !bytes.Equal(d, keptD) {
					t.Fatalf("R4: a list was modified: %d", d)
				}
			}
		}
	}
}

// R4 and R5: the steps that Of returns are new memory each time: whoever
// changes them, or the row, changes no other result.
func TestStepsAreNew(t *testing.T) {
	for _, c := range [][]int{{3}, {3, 3}, {3, 4, 4, 5, 6}, {3, 5}, nil} {
		for _, spare := range []int{0, 1, 20} {
			row := append(make([]int, 0, len(c)+spare), c...)
			first, _ := delta.Of(row)
			want := slices.Clone(first)
			second, _ := delta.Of(row)
			fill(first, 77)
			fill(append(first, 78), 78)
			third, _ := delta.Of(row)
			fill(row, -9)
			if !bytes.Equal(second, want) || !bytes.Equal(third, want) {
				t.Errorf("R4: Of(%d): %d, %d, not %d", c, second, third, want)
			}
		}
	}
}

// R4 and R5: what Row and Put return is new memory each time, also where
// nothing is replaced.
func TestRowsAndCopiesAreNew(t *testing.T) {
	for _, c := range [][]byte{nil, {1}, {0, 1, 255, 0, 1}} {
		for _, spare := range []int{0, 1, 20} {
			for _, at := range []int{-1, 0, 1, len(c), highest} {
				d := append(make([]byte, 0, len(c)+spare), c...)
				row, put := delta.Row(4, d), delta.Put(d, at, 2, 1)
				wantRow, wantPut := slices.Clone(row), slices.Clone(put)
				row2, put2 := delta.Row(4, d), delta.Put(d, at, 2, 1)
				fill(row, -7)
				fill(append(row, -8), -8)
				fill(put, 77)
				fill(append(put, 78), 78)
				row3, put3 := delta.Row(4, d), delta.Put(d, at, 2, 1)
				fill(d, 99)
				if !slices.Equal(row2, wantRow) || !slices.Equal(row3, wantRow) {
					t.Errorf("R4: Row(4, %d): %d, %d, not %d", c, row2, row3, wantRow)
				}
				if !bytes.Equal(put2, wantPut) || !bytes.Equal(put3, wantPut) {
					t.Errorf("R4: Put(%d, %d, 2, 1): %d, %d, not %d", c, at, put2, put3, wantPut)
				}
			}
		}
	}
}

// R5: answers hang on the arguments alone: what was asked before, an error
// among it, does not matter, and neither does where a list lies in memory.
func TestAnswersStay(t *testing.T) {
	row, d := []int{0, 0, 1, 2, 2, 0, 1}, []byte{1, 0, 1, 1, 0, 9}
	for range 4 {
		for from := range len(row) + 1 {
			for to := from; to <= len(row); to++ {
				checkOf(t, row[from:to])
			}
		}
		for from := range len(d) + 1 {
			for to := from; to <= len(d); to++ {
				checkRow(t, from, d[from:to])
				for at := -1; at <= to-from+1; at++ {
					checkKey(t, d[from:to], at, 3)
					checkPut(t, d[from:to], at, 2, 2)
					checkPut(t, d[from:to], at, 4, 2)
				}
			}
		}
	}
}
