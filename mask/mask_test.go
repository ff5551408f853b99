package mask_test

import (
	"math"
	"math/rand"
	"slices"
	"testing"

	"tatting/api"
	"tatting/mask"
	"tatting/vec"
)

const (
	least = math.MinInt
	most  = math.MaxInt
	limit = api.MaxTokens
	ones  = math.MaxUint64
	top   = 1 << 63
)

// maskOf sets the bits of sym in b one by one, in as many words as they need.
func maskOf(b []int, sym int) []uint64 {
	words := 0
	for 64*words < len(b) {
		words++
	}
	x := make([]uint64, words)
	for j, k := range b {
		if k == sym {
			x[j/64] |= 1 << (j % 64)
		}
	}
	return x
}

// distinct returns the numbers of b in ascending order, each once, by taking
// again and again the least one that is greater than the last.
func distinct(b []int) []int {
	var l []int
	for {
		next, found := 0, false
		for _, k := range b {
			if (len(l) == 0 || k > l[len(l)-1]) && (!found || k < next) {
				next, found = k, true
			}
		}
		if !found {
			return l
		}
		l = append(l, next)
	}
}

// lists calls use with every list of up to length of the given numbers.
func lists(numbers []int, length int, use func([]int)) {
	last := [][]int{nil}
	use(nil)
	for range length {
		var next [][]int
		for _, l := range last {
			for _, k := range numbers {
				next = append(next, append(slices.Clone(l), k))
			}
		}
		for _, l := range next {
			use(l)
		}
		last = next
	}
}

// fill overwrites a list and its spare capacity.
func fill[E any](l []E, with E) {
	l = l[:cap(l)]
	for i := range l {
		l[i] = with
	}
}

// check holds all answers of m against the list b, for the numbers of b and
// for others.
func check(t *testing.T, m *mask.Masks, b []int, others ...int) {
	t.Helper()
	if m == nil {
		t.Fatalf("P6.1: New(%d): nil", b)
	}
	words := (len(b) + 63) / 64
	if m.Len() != len(b) || m.Words() != words || m.Words() != vec.Words(len(b)) {
		t.Fatalf("P6.1: New(%d): %d numbers, %d words", b, m.Len(), m.Words())
	}
	symbols := m.Symbols()
	if want := distinct(b); !slices.Equal(symbols, want) {
		t.Fatalf("P6.1: New(%d): Symbols: %d, not %d", b, symbols, want)
	}
	for _, sym := range slices.Concat(symbols, others) {
		if got, want := m.Of(sym), maskOf(b, sym); !slices.Equal(got, want) {
			t.Fatalf("P6.1: New(%d): Of(%d): %x, not %x", b, sym, got, want)
		}
	}
	in := make([]int, 64*words)
	for _, sym := range symbols {
		x := m.Of(sym)
		for j := range in {
			if vec.Get(x, j) {
				in[j]++
			}
		}
	}
	for j, times := range in {
		if j < len(b) && times != 1 || j >= len(b) && times != 0 {
			t.Fatalf("P6.2: New(%d): index %d is in %d masks", b, j, times)
		}
	}
}

// P6.1: the example of the chapter.
func TestExample(t *testing.T) {
	m := mask.New([]int{7, 5, 7})
	if got := m.Of(7); !slices.Equal(got, []uint64{5}) {
		t.Errorf("P6.1: New(7 5 7): Of(7): %d", got)
	}
	if got := m.Of(5); !slices.Equal(got, []uint64{2}) {
		t.Errorf("P6.1: New(7 5 7): Of(5): %d", got)
	}
	if got := m.Symbols(); !slices.Equal(got, []int{5, 7}) {
		t.Errorf("P6.1: New(7 5 7): Symbols: %d", got)
	}
	if m.Len() != 3 || m.Words() != 1 {
		t.Errorf("P6.1: New(7 5 7): %d numbers, %d words", m.Len(), m.Words())
	}
}

// P6.1: an empty list and nil have masks without words.
func TestEmpty(t *testing.T) {
	for _, b := range [][]int{nil, {}, make([]int, 0, 100)} {
		m := mask.New(b)
		if m == nil {
			t.Fatal("P6.1: New of an empty list: nil")
		}
		if m.Len() != 0 || m.Words() != 0 || len(m.Symbols()) != 0 {
			t.Errorf("P6.1: New of an empty list: %d numbers, %d words, %d", m.Len(), m.Words(), m.Symbols())
		}
		for _, sym := range []int{0, 1, -1, least, most} {
			if got := m.Of(sym); len(got) != 0 {
				t.Errorf("P6.1: New of an empty list: Of(%d): %d", sym, got)
			}
		}
	}
}

// P6.1: the bits at both ends of words.
func TestEndsOfWords(t *testing.T) {
	for _, c := range []struct {
		length int
		at     []int
		want   []uint64
	}{
		{1, []int{0}, []uint64{1}},
		{63, []int{0}, []uint64{1}},
		{63, []int{62}, []uint64{top >> 1}},
		{64, []int{63}, []uint64{top}},
		{64, []int{0, 63}, []uint64{top | 1}},
		{65, []int{63}, []uint64{top, 0}},
		{65, []int{64}, []uint64{0, 1}},
		{65, []int{0, 63, 64}, []uint64{top | 1, 1}},
		{128, []int{127}, []uint64{0, top}},
		{128, []int{0, 127}, []uint64{1, top}},
		{129, []int{63, 64, 127, 128}, []uint64{top, top | 1, 1}},
		{192, []int{0, 191}, []uint64{1, 0, top}},
		{193, []int{192}, []uint64{0, 0, 0, 1}},
	} {
		b := make([]int, c.length)
		for _, j := range c.at {
			b[j] = 9
		}
		m := mask.New(b)
		if got := m.Of(9); !slices.Equal(got, c.want) {
			t.Errorf("P6.1: Of(9) at %d of %d: %x", c.at, c.length, got)
		}
		check(t, m, b, 9, 0, 1)
	}
}

// P6.1 and P6.2: one number many times, all different numbers up and down,
// and two numbers in turn, in as many words as each length needs.
func TestLengths(t *testing.T) {
	for _, n := range []int{1, 2, 62, 63, 64, 65, 127, 128, 129, 191, 192, 193, 256, 257, 300} {
		b := make([]int, n)
		check(t, mask.New(b), b, 1, -1)
		if got := mask.New(b).Of(0); vec.Count(got, 64*len(got)) != n || !slices.Equal(got, vec.Ones(n)) {
			t.Errorf("P6.1: Of(0) of %d zeros: %x", n, got)
		}
		for j := range b {
			b[j] = j
		}
		check(t, mask.New(b), b, -1, n)
		for j := range b {
			b[j] = n/2 - j
		}
		check(t, mask.New(b), b, -n, n)
		for j := range b {
			b[j] = j % 2
		}
		check(t, mask.New(b), b, -1, 2)
	}
}

// P6.1: numbers below 0, the least and the greatest one, and numbers of which
// only a part is equal; those that the list does not have have no bits.
func TestNumbers(t *testing.T) {
	others := []int{
		0, 1, -1, 2, -2, 63, 64, 65, limit, limit + 1, -limit,
		1 << 31, -1 << 31, 1 << 32, -1 << 32, 1<<32 + 1, 1<<63 - 2, least, least + 1, most,
	}
	for _, b := range [][]int{
		{0}, {-1}, {least}, {most}, {1, -1}, {-1, 1, -1},
		{most, least}, {least, most}, {least, 0, most, 0, least}, {most, -1, 0, least, 1},
		{1, 1<<32 + 1, 1, 1 << 32, 0}, {-1, 1<<32 - 1, 1<<31 - 1}, {least, 0}, {least + 1, 1, -most},
		{3, -3, 3, -3}, {5, 4, 3, 2, 1, 0, -1, -2, -3},
		{10, 9, 100, 11, 1, 2, -10, -9},
	} {
		check(t, mask.New(b), b, others...)
	}
}

// P6.1 and P6.2: every short list.
func TestShortLists(t *testing.T) {
	numbers := []int{-1, 0, 2, 5}
	lists(numbers, 6, func(b []int) {
		check(t, mask.New(b), b, -2, -1, 0, 1, 2, 3, 5, 6)
	})
	// A word's end in every place of a short list.
	for ahead := 60; ahead < 66; ahead++ {
		lists([]int{3, 8}, 5, func(l []int) {
			b := append(slices.Repeat([]int{4}, ahead), l...)
			check(t, mask.New(b), b, 3, 8, 0)
		})
	}
}

// P6.1 and P6.2: longer lists of few and of many numbers, in runs and without.
func TestManyLists(t *testing.T) {
	r := rand.New(rand.NewSource(6))
	for range 300 {
		b := make([]int, r.Intn(400))
		n, run := 1+r.Intn(1+r.Intn(60)), 1+r.Intn(100)
		for j := range b {
			b[j] = r.Intn(n) - n/2
			if j > 0 && r.Intn(run) > 0 {
				b[j] = b[j-1]
			}
		}
		check(t, mask.New(b), b, -n, n, least, most)
	}
}

// P6.1 and P6.2 at the limit: one number everywhere, and each number once,
// which must not cost the memory of as many whole masks.
func TestLimit(t *testing.T) {
	b := make([]int, limit)
	m := mask.New(b)
	if m.Len() != limit || m.Words() != limit/64 || !slices.Equal(m.Symbols(), []int{0}) {
		t.Fatalf("P6.1: at the limit: %d numbers, %d words, %d", m.Len(), m.Words(), m.Symbols())
	}
	if !slices.Equal(m.Of(0), vec.Ones(limit)) || !slices.Equal(m.Of(1), make([]uint64, limit/64)) {
		t.Errorf("P6.1: at the limit: the masks of 0 and 1")
	}
	for j := range b {
		b[j] = limit - 1 - j
	}
	m = mask.New(b)
	symbols := m.Symbols()
	if m.Len() != limit || m.Words() != limit/64 || len(symbols) != limit {
		t.Fatalf("P6.1: at the limit: %d numbers, %d words, %d symbols", m.Len(), m.Words(), len(symbols))
	}
	for k, sym := range symbols {
		if k != sym {
			t.Fatalf("P6.1: at the limit: symbol %d is %d", k, sym)
		}
	}
	for _, sym := range []int{0, 1, 63, 64, limit / 2, limit - 64, limit - 1} {
		want := make([]uint64, limit/64)
		want[(limit-1-sym)/64] = 1 << ((limit - 1 - sym) % 64)
		if !slices.Equal(m.Of(sym), want) {
			t.Errorf("P6.1: at the limit: the mask of %d", sym)
		}
	}
}

// R1: above the limit, each call still ends without a panic.
func TestNoPanic(t *testing.T) {
	for _, n := range []int{limit + 1, limit + 64, limit + 1000} {
		for _, last := range []int{0, 7, least, most} {
			b := make([]int, n)
			b[n-1] = last
			m := mask.New(b)
			m.Len()
			m.Words()
			m.Symbols()
			for _, sym := range []int{0, last, 5} {
				m.Of(sym)
			}
		}
	}
}

// R4: the list is not modified, and neither is its spare capacity, which is
// no part of the list.
func TestListStays(t *testing.T) {
	all := []int{7, 5, 7, 5, 9, 7, 11, 12}
	kept := slices.Clone(all)
	for n := range len(all) {
		m := mask.New(all[:n])
		check(t, m, kept[:n], 5, 7, 9, 11, 12)
		for _, sym := range all {
			fill(m.Of(sym), ones)
		}
		fill(m.Symbols(), -7)
		if !slices.Equal(all, kept) {
			t.Fatalf("R4: the list was modified: %d", all)
		}
	}
}

// R4: whoever changes the list after New changes no answer.
func TestListIsNotRetained(t *testing.T) {
	r := rand.New(rand.NewSource(64))
	for _, n := range []int{1, 2, 3, 63, 64, 65, 128, 200} {
		b := make([]int, n, n+30)
		for j := range b {
			b[j] = r.Intn(4)
		}
		kept := slices.Clone(b)
		m := mask.New(b)
		fill(b, 99)
		check(t, m, kept, 0, 1, 2, 3, 99)
		fill(b, 2)
		check(t, m, kept, 0, 1, 2, 3, 99)
	}
}

// R4: results are new memory each time: whoever changes one changes no later
// answer.
func TestResultsAreNew(t *testing.T) {
	for _, b := range [][]int{
		{7, 5, 7},
		{3},
		slices.Repeat([]int{1, 2, 3}, 30),
		slices.Repeat([]int{4}, 128),
	} {
		m := mask.New(b)
		others := []int{6, 0, least, 77}
		for _, sym := range slices.Concat(b, others) {
			first, second := m.Of(sym), m.Of(sym)
			fill(first, ones)
			if !slices.Equal(second, maskOf(b, sym)) {
				t.Fatalf("R4: New(%d): two masks of %d share memory", b, sym)
			}
			fill(second, 77)
			check(t, m, b, others...)
		}
		first, second := m.Symbols(), m.Symbols()
		fill(first, 77)
		if !slices.Equal(second, distinct(b)) {
			t.Fatalf("R4: New(%d): two lists of symbols share memory", b)
		}
		fill(second, -7)
		check(t, m, b, others...)
	}
}

// R5: two objects do not touch one another, in whatever order they are made
// and asked.
func TestObjectsShareNothing(t *testing.T) {
	one, two := []int{7, 5, 7}, slices.Repeat([]int{5, 9}, 50)
	m := mask.New(one)
	check(t, m, one, 9)
	n := mask.New(two)
	check(t, m, one, 9)
	check(t, n, two, 7)
	fill(m.Of(5), ones)
	fill(m.Of(6), ones)
	fill(m.Symbols(), 99)
	check(t, n, two, 7, 6, 99)
	same := mask.New(one)
	mask.New(nil)
	fill(n.Of(7), ones)
	check(t, m, one, 9, 99)
	check(t, same, one, 9, 99)
}

// R5: answers do not hang on what was asked before.
func TestAnswersStay(t *testing.T) {
	b := []int{2, -4, 2, 8, -4, 2}
	m := mask.New(b)
	for round := range 5 {
		for sym := -5; sym <= 9; sym++ {
			if got := m.Of(sym); !slices.Equal(got, maskOf(b, sym)) {
				t.Fatalf("R5: round %d: Of(%d): %x", round, sym, got)
			}
		}
		check(t, m, b, 3, 100+round)
	}
}
