package edit_test

import (
	"bytes"
	"fmt"
	"math"
	"math/rand"
	"slices"
	"strconv"
	"sync"
	"testing"

	"tatting/api"
	"tatting/edit"
	"tatting/least"
	"tatting/names"
	"tatting/pairs"
)

const (
	lowest  = math.MinInt
	highest = math.MaxInt
	limit   = api.MaxTokens
)

// of makes a list of pairs of numbers, two and two.
func of(n ...int) []api.Pair {
	var l []api.Pair
	for k := 0; k+1 < len(n); k += 2 {
		l = append(l, api.Pair{I: n[k], J: n[k+1]})
	}
	return l
}

// tokens makes a list of tokens from texts.
func tokens(texts ...string) [][]byte {
	l := make([][]byte, 0, len(texts))
	for _, s := range texts {
		l = append(l, []byte(s))
	}
	return l
}

// letters makes a list of tokens from the bytes of a text.
func letters(s string) [][]byte {
	var l [][]byte
	for i := range len(s) {
		l = append(l, []byte{s[i]})
	}
	return l
}

// hunk is a hunk of letters.
func hunk(at int, old, now string) api.Hunk {
	return api.Hunk{At: at, Old: letters(old), New: letters(now)}
}

// script is a list of hunks.
func script(s ...api.Hunk) []api.Hunk {
	return s
}

// good follows the words of chapter 7 for the numbers of chapter 2: equal
// tokens have equal ones.
func good(a, b [][]byte, l []api.Pair) bool {
	for k, p := range l {
		if p.I < 0 || p.I >= len(a) || p.J < 0 || p.J >= len(b) || string(a[p.I]) != string(b[p.J]) {
			return false
		}
		if k > 0 && (p.I <= l[k-1].I || p.J <= l[k-1].J) {
			return false
		}
	}
	return true
}

// hunkWords follows the words of P24.1 for one hunk of Make: number 0 is the
// one before the first pair, the last one that after the last pair.
func hunkWords(a, b [][]byte, l []api.Pair, number int) api.Hunk {
	first, last := api.Pair{I: -1, J: -1}, api.Pair{I: len(a), J: len(b)}
	if number > 0 {
		first = l[number-1]
	}
	if number < len(l) {
		last = l[number]
	}
	h := api.Hunk{At: first.I + 1}
	for i, t := range a {
		if i > first.I && i < last.I {
			h.Old = append(h.Old, t)
		}
	}
	for j, t := range b {
		if j > first.J && j < last.J {
			h.New = append(h.New, t)
		}
	}
	return h
}

// makeWords follows the words of P24.1 for Make of a valid list.
func makeWords(a, b [][]byte, l []api.Pair) []api.Hunk {
	var s []api.Hunk
	for number := range len(l) + 1 {
		if h := hunkWords(a, b, l, number); len(h.Old)+len(h.New) > 0 {
			s = append(s, h)
		}
	}
	return s
}

// goodWords follows the words of P24.1 for Good, one clause after another.
func goodWords(s []api.Hunk) bool {
	for _, h := range s {
		if h.At < 0 || h.At > limit {
			return false
		}
	}
	for k := 1; k < len(s); k++ {
		if s[k].At <= s[k-1].At+len(s[k-1].Old) {
			return false
		}
	}
	for _, h := range s {
		if len(h.Old) == 0 && len(h.New) == 0 {
			return false
		}
		for _, t := range slices.Concat(h.Old, h.New) {
			if len(t) == 0 {
				return false
			}
		}
	}
	return true
}

// countWords follows the words of P24.1 for Count.
func countWords(s []api.Hunk) (int, int) {
	var old, now [][]byte
	for _, h := range s {
		old = append(old, h.Old...)
		now = append(now, h.New...)
	}
	return len(old), len(now)
}

// pairsWords follows the words of P24.1 for Pairs: it applies the script to a
// text whose tokens are their indices, and looks where each of them is. The
// second result tells whether the arguments will do.
func pairsWords(n int, s []api.Hunk) ([]api.Pair, bool) {
	if !goodWords(s) || n < 0 || n > limit {
		return nil, false
	}
	for _, h := range s {
		if h.At+len(h.Old) > n {
			return nil, false
		}
	}
	const gone, came = -1, -2
	text, begin := make([]int, n), make([][]int, n+1)
	for i := range text {
		text[i] = i
	}
	for _, h := range s {
		for k := range h.Old {
			text[h.At+k] = gone
		}
		begin[h.At] = slices.Repeat([]int{came}, len(h.New))
	}
	var after []int
	for i := range n + 1 {
		after = append(after, begin[i]...)
		if i < n && text[i] != gone {
			after = append(after, text[i])
		}
	}
	var l []api.Pair
	for j, i := range after {
		if i != came {
			l = append(l, api.Pair{I: i, J: j})
		}
	}
	return l, true
}

// sameTokens compares two lists of tokens bytewise.
func sameTokens(x, y [][]byte) bool {
	return slices.EqualFunc(x, y, bytes.Equal)
}

// same compares two scripts hunk by hunk.
func same(x, y []api.Hunk) bool {
	return slices.EqualFunc(x, y, func(g, h api.Hunk) bool {
		return g.At == h.At && sameTokens(g.Old, h.Old) && sameTokens(g.New, h.New)
	})
}

// told writes the beginning of a script, which may be very long.
func told(s []api.Hunk) string {
	t := fmt.Sprintf("%d hunks: ", len(s))
	for _, h := range s[:min(len(s), 20)] {
		t += fmt.Sprintf("(%d %q %q)", h.At, h.Old[:min(len(h.Old), 20)], h.New[:min(len(h.New), 20)])
	}
	return fmt.Sprintf("[%.400s]", t)
}

// makeFault tells what Make answers for a valid list otherwise than P24.1 and
// P24.2 ask, or nothing.
func makeFault(a, b [][]byte, l []api.Pair, want []api.Hunk) string {
	s, e := edit.Make(a, b, l)
	if e != api.OK || !same(s, want) {
		return fmt.Sprintf("P24.1: Make with %v: %s, not %s, error %d", l, told(s), told(want), e)
	}
	if slices.ContainsFunc(slices.Concat(a, b), func(t []byte) bool { return len(t) == 0 }) {
		return ""
	}
	if !edit.Good(s) || !goodWords(s) {
		return fmt.Sprintf("P24.2: Make with %v: %s, which is not valid", l, told(s))
	}
	if back, e := edit.Pairs(len(a), s); e != api.OK || !slices.Equal(back, l) {
		return fmt.Sprintf("P24.2: Make with %v: %s, and Pairs of that: %v, error %d", l, told(s), back, e)
	}
	if del, ins := edit.Count(s); del != len(a)-len(l) || ins != len(b)-len(l) {
		return fmt.Sprintf("P24.2: Make with %v: %s, and Count of that: %d, %d", l, told(s), del, ins)
	}
	return ""
}

// wrongFault tells whether Make takes a list that is not valid, or answers a
// script beside the error (R2), or nothing.
func wrongFault(a, b [][]byte, l []api.Pair) string {
	if s, e := edit.Make(a, b, l); e != api.EARG || s != nil {
		return fmt.Sprintf("P24.1: Make with %v: %s, error %d", l, told(s), e)
	}
	return ""
}

// eitherFault is that of Make for a list of pairs, valid or not.
func eitherFault(a, b [][]byte, l []api.Pair) string {
	if good(a, b, l) {
		return makeFault(a, b, l, makeWords(a, b, l))
	}
	return wrongFault(a, b, l)
}

// scriptFault tells what Good, Count and Pairs answer for a script otherwise
// than P24.1 asks, or nothing.
func scriptFault(n int, s []api.Hunk) string {
	if ok := edit.Good(s); ok != goodWords(s) {
		return fmt.Sprintf("P24.1: Good: %v", ok)
	}
	wantDel, wantIns := countWords(s)
	if del, ins := edit.Count(s); del != wantDel || ins != wantIns {
		return fmt.Sprintf("P24.1: Count: %d, %d", del, ins)
	}
	want, ok := pairsWords(n, s)
	l, e := edit.Pairs(n, s)
	if ok && (e != api.OK || !slices.Equal(l, want)) {
		return fmt.Sprintf("P24.1: Pairs for %d: %v, not %v, error %d", n, l, want, e)
	}
	if !ok && (e != api.EARG || l != nil) {
		return fmt.Sprintf("P24.1: Pairs for %d: %v, error %d", n, l, e)
	}
	return ""
}

// check holds Make against the chapter's words for a list, valid or not.
func check(t *testing.T, a, b [][]byte, l []api.Pair) {
	t.Helper()
	if f := eitherFault(a, b, l); f != "" {
		t.Fatalf("%.200q and %.200q: %.900s", a, b, f)
	}
}

// checkTold holds Make against a script that is told.
func checkTold(t *testing.T, a, b [][]byte, l []api.Pair, want []api.Hunk) {
	t.Helper()
	if f := makeFault(a, b, l, want); f != "" {
		t.Fatalf("%d and %d tokens: %.900s", len(a), len(b), f)
	}
}

// checkWrong holds Make against a list that is not valid.
func checkWrong(t *testing.T, a, b [][]byte, l []api.Pair) {
	t.Helper()
	if f := wrongFault(a, b, l); f != "" {
		t.Fatalf("%d and %d tokens: %.900s", len(a), len(b), f)
	}
}

// checkScript holds the other functions against the chapter's words.
func checkScript(t *testing.T, n int, s []api.Hunk) {
	t.Helper()
	if f := scriptFault(n, s); f != "" {
		t.Fatalf("%s: %.600s", told(s), f)
	}
}

// valid returns all valid lists of a and b that begin with l, of any length.
func valid(a, b [][]byte, l []api.Pair) [][]api.Pair {
	all := [][]api.Pair{slices.Clone(l)}
	i, j := 0, 0
	if len(l) > 0 {
		i, j = l[len(l)-1].I+1, l[len(l)-1].J+1
	}
	for x := i; x < len(a); x++ {
		for y := j; y < len(b); y++ {
			if bytes.Equal(a[x], b[y]) {
				all = append(all, valid(a, b, append(slices.Clone(l), api.Pair{I: x, J: y}))...)
			}
		}
	}
	return all
}

// lists calls use with every list of up to length of the given elements.
func lists[E any](elements []E, length int, use func([]E)) {
	last := [][]E{nil}
	use(nil)
	for range length {
		var next [][]E
		for _, l := range last {
			for _, e := range elements {
				next = append(next, append(slices.Clone(l), e))
			}
		}
		for _, l := range next {
			use(l)
		}
		last = next
	}
}

// two calls use with every two lists of up to length of the given elements.
func two[E any](elements []E, length int, use func(a, b []E)) {
	lists(elements, length, func(a []E) {
		lists(elements, length, func(b []E) {
			use(a, b)
		})
	})
}

// square has all pairs of two of the numbers.
func square(n ...int) []api.Pair {
	var l []api.Pair
	for _, i := range n {
		for _, j := range n {
			l = append(l, api.Pair{I: i, J: j})
		}
	}
	return l
}

// cross has every hunk of these places and lists.
func cross(places []int, old, now [][][]byte) []api.Hunk {
	var s []api.Hunk
	for _, at := range places {
		for _, x := range old {
			for _, y := range now {
				s = append(s, api.Hunk{At: at, Old: x, New: y})
			}
		}
	}
	return s
}

// some returns up to length tokens out of few, some of them prefixes of
// others.
func some(r *rand.Rand, length, kinds int) [][]byte {
	l := make([][]byte, r.Intn(length+1))
	for i := range l {
		k := r.Intn(kinds)
		l[i] = bytes.Repeat([]byte{byte(250 + k%3)}, 1+k/3)
	}
	return l
}

// aligned returns a valid list of a and b, not always a longest one.
func aligned(r *rand.Rand, a, b [][]byte) []api.Pair {
	var l []api.Pair
	j := 0
	for i := range a {
		if r.Intn(4) == 0 {
			continue
		}
		for k := j + r.Intn(2); k < len(b) && k < j+6; k++ {
			if bytes.Equal(a[i], b[k]) {
				l = append(l, api.Pair{I: i, J: k})
				j = k + 1
				break
			}
		}
	}
	return l
}

// numbered returns n distinct tokens.
func numbered(n int) [][]byte {
	l := make([][]byte, n)
	for i := range l {
		l[i] = strconv.AppendInt(nil, int64(i), 10)
	}
	return l
}

// equals returns n tokens that are all the same, even as memory.
func equals(n int, token string) [][]byte {
	return slices.Repeat(tokens(token), n)
}

// diagonal returns n pairs from (i, j) on.
func diagonal(n, i, j int) []api.Pair {
	l := make([]api.Pair, n)
	for k := range l {
		l[k] = api.Pair{I: i + k, J: j + k}
	}
	return l
}

// put returns a copy of l with another pair at an index.
func put(l []api.Pair, at int, p api.Pair) []api.Pair {
	c := slices.Clone(l)
	c[at] = p
	return c
}

// P24.1: the example of the chapter.
func TestExample(t *testing.T) {
	s, e := edit.Make(letters("ab"), letters("bc"), of(1, 0))
	if e != api.OK || len(s) != 2 || s[0].At != 0 || !sameTokens(s[0].Old, tokens("a")) || len(s[0].New) != 0 || s[1].At != 2 || len(s[1].Old) != 0 || !sameTokens(s[1].New, tokens("c")) {
		t.Errorf("P24.1: Make of the example: %s, error %d", told(s), e)
	}
	if l, e := edit.Pairs(2, s); e != api.OK || !slices.Equal(l, of(1, 0)) {
		t.Errorf("P24.2: Pairs of the example: %v, error %d", l, e)
	}
	if del, ins := edit.Count(s); del != 1 || ins != 1 || !edit.Good(s) {
		t.Errorf("P24.2: Count of the example: %d, %d; Good %v", del, ins, edit.Good(s))
	}
}

// P24.1: Make of ordinary lists, with the scripts told.
func TestMakeTold(t *testing.T) {
	for _, c := range []struct {
		a, b string
		l    []api.Pair
		want []api.Hunk
	}{
		// No pairs: a single hunk for all tokens, or none.
		{"", "", nil, nil}, {"a", "", nil, script(hunk(0, "a", ""))}, {"", "a", nil, script(hunk(0, "", "a"))}, {"a", "a", nil, script(hunk(0, "a", "a"))},
		{"abc", "de", nil, script(hunk(0, "abc", "de"))}, {"abc", "abc", nil, script(hunk(0, "abc", "abc"))}, {"abc", "", nil, script(hunk(0, "abc", ""))}, {"", "xyz", nil, script(hunk(0, "", "xyz"))},

		// One pair, with nothing, something in a, in b and in both on its sides.
		{"a", "a", of(0, 0), nil}, {"xa", "a", of(1, 0), script(hunk(0, "x", ""))}, {"a", "xa", of(0, 1), script(hunk(0, "", "x"))}, {"xa", "ya", of(1, 1), script(hunk(0, "x", "y"))},
		{"ax", "a", of(0, 0), script(hunk(1, "x", ""))}, {"a", "ax", of(0, 0), script(hunk(1, "", "x"))}, {"ax", "ay", of(0, 0), script(hunk(1, "x", "y"))}, {"xax", "yay", of(1, 1), script(hunk(0, "x", "y"), hunk(2, "x", "y"))},
		{"xxa", "ayy", of(2, 0), script(hunk(0, "xx", ""), hunk(3, "", "yy"))}, {"axx", "yya", of(0, 2), script(hunk(0, "", "yy"), hunk(1, "xx", ""))},

		// Between two pairs.
		{"ab", "ab", of(0, 0, 1, 1), nil}, {"axb", "ab", of(0, 0, 2, 1), script(hunk(1, "x", ""))}, {"ab", "axb", of(0, 0, 1, 2), script(hunk(1, "", "x"))}, {"axb", "ayzb", of(0, 0, 2, 3), script(hunk(1, "x", "yz"))},
		{"aaa", "aaa", of(0, 0, 2, 2), script(hunk(1, "a", "a"))}, {"aaa", "aa", of(0, 0, 2, 1), script(hunk(1, "a", ""))}, {"aa", "aaa", of(0, 0, 1, 2), script(hunk(1, "", "a"))}, {"aaa", "aaa", of(1, 1), script(hunk(0, "a", "a"), hunk(2, "a", "a"))},

		// Several hunks, with a single token and with none between them.
		{"abcd", "xbyd", of(1, 1, 3, 3), script(hunk(0, "a", "x"), hunk(2, "c", "y"))}, {"abc", "uavbwcx", of(0, 1, 1, 3, 2, 5), script(hunk(0, "", "u"), hunk(1, "", "v"), hunk(2, "", "w"), hunk(3, "", "x"))},
		{"uavbwcx", "abc", of(1, 0, 3, 1, 5, 2), script(hunk(0, "u", ""), hunk(2, "v", ""), hunk(4, "w", ""), hunk(6, "x", ""))}, {"abcdef", "axxcdyf", of(0, 0, 2, 3, 3, 4, 5, 6), script(hunk(1, "b", "xx"), hunk(4, "e", "y"))},
		{"kitten", "sitting", of(1, 1, 2, 2, 3, 3, 5, 5), script(hunk(0, "k", "s"), hunk(4, "e", "i"), hunk(6, "", "g"))}, {"\x00\xff", "\xff\x00", of(0, 1), script(hunk(0, "", "\xff"), hunk(1, "\xff", ""))},
	} {
		checkTold(t, letters(c.a), letters(c.b), c.l, c.want)
		check(t, letters(c.a), letters(c.b), c.l)
	}
}

// P24.1: tokens of many lengths are whole in the hunks.
func TestMakeOfLines(t *testing.T) {
	a, b := tokens("one\n", "\n", "two\n", "three"), tokens("\n", "two\n", "two", "three\n")
	s, e := edit.Make(a, b, of(1, 0, 2, 1))
	want := script(api.Hunk{At: 0, Old: tokens("one\n")}, api.Hunk{At: 3, Old: tokens("three"), New: tokens("two", "three\n")})
	if e != api.OK || !same(s, want) {
		t.Errorf("P24.1: Make of lines: %s, error %d", told(s), e)
	}
	for _, l := range valid(a, b, nil) {
		check(t, a, b, l)
	}
}

// P24.1: empty tokens are tokens as others are, and equal to each other; the
// script is then not valid.
func TestMakeOfEmptyTokens(t *testing.T) {
	a, b := [][]byte{nil, {'a'}, {}, nil}, [][]byte{{}, {0}, nil, {'a'}}
	for _, l := range valid(a, b, nil) {
		check(t, a, b, l)
	}
	if len(valid(a, b, nil)) < 8 {
		t.Errorf("the lists have little in common")
	}
	s, e := edit.Make(a, b, of(1, 3))
	want := script(api.Hunk{At: 0, Old: a[:1], New: b[:3]}, api.Hunk{At: 2, Old: a[2:]})
	if e != api.OK || !same(s, want) || edit.Good(s) {
		t.Errorf("P24.1: Make of empty tokens: %s, error %d", told(s), e)
	}
	if del, ins := edit.Count(s); del != 3 || ins != 3 {
		t.Errorf("P24.1: Count of empty tokens: %d, %d", del, ins)
	}
	if l, e := edit.Pairs(4, s); e != api.EARG || l != nil {
		t.Errorf("P24.1: Pairs of empty tokens: %v, error %d", l, e)
	}
	checkWrong(t, a, b, of(0, 1))
	checkWrong(t, b, a, of(1, 0))
	checkWrong(t, a, b, of(1, 0))
}

// P24.1: each clause of a valid list broken alone, at each place of a list.
func TestMakeOfWrongLists(t *testing.T) {
	const n = 6
	a, whole := equals(n, "a"), diagonal(n, 0, 0)
	checkTold(t, a, equals(n, "a"), whole, nil)
	for k, p := range whole {
		for _, wrong := range []int{-1, -n, n, n + 1, lowest, lowest + 1, lowest + k, highest, highest - 1, 1<<32 + k, -1<<32 + k, 1<<31 + k} {
			checkWrong(t, a, a, put(whole, k, api.Pair{I: wrong, J: p.J}))
			checkWrong(t, a, a, put(whole, k, api.Pair{I: p.I, J: wrong}))
			checkWrong(t, a, a, put(whole, k, api.Pair{I: wrong, J: wrong}))
			checkWrong(t, a, a, of(wrong, k))
			checkWrong(t, a, a, of(k, wrong))
		}
		other := slices.Clone(a)
		other[k] = []byte("b")
		checkWrong(t, a, other, whole)
		checkWrong(t, other, a, whole)
		checkWrong(t, a, other, of(k, k))
		checkTold(t, other, slices.Clone(other), whole, nil)
		checkTold(t, a, other, slices.Delete(slices.Clone(whole), k, k+1), script(hunk(k, "a", "b")))
		if k == 0 {
			continue
		}
		checkWrong(t, a, a, put(whole, k, api.Pair{I: k - 1, J: k}))
		checkWrong(t, a, a, put(whole, k, api.Pair{I: k, J: k - 1}))
		checkWrong(t, a, a, put(whole, k, whole[k-1]))
		checkWrong(t, a, a, of(k, k-1, k-1, k))
		checkWrong(t, a, a, of(k-1, k, k, k-1))
		checkWrong(t, a, a, of(k, k, k-1, k-1))
		checkWrong(t, a, a, of(k, k, k, k))
	}
	checkWrong(t, a, a[:n-1], whole)
	checkWrong(t, a[:n-1], a, whole)
	checkWrong(t, a, nil, of(0, 0))
	checkWrong(t, nil, a, of(0, 0))
	checkWrong(t, nil, nil, of(0, 0))
	checkWrong(t, nil, nil, of(-1, -1))
}

// P24.1: tokens that are alike, but not equal, make no pair.
func TestMakeOfUnequalTokens(t *testing.T) {
	all := tokens("a", "A", "aa", "a\x00", "\x00a", "b", "a\n", "\n", "\x00", "\x00\x00", "", "\xc3\xa4", "a\xcc\x88", "\xff", "\x7f", "ab", "ba")
	for x := range all {
		for y := range all {
			a, b := [][]byte{all[x]}, [][]byte{bytes.Clone(all[y])}
			check(t, a, b, of(0, 0))
			if f := wrongFault(a, b, of(0, 0)); (f == "") != (x != y) {
				t.Errorf("P24.1: Make of %q and %q with (0, 0): %v", a, b, f)
			}
		}
	}
	check(t, tokens("ab", "c"), tokens("a", "bc"), of(0, 0))
	check(t, tokens("ab", "c"), tokens("a", "b", "c"), of(1, 2))
	check(t, tokens("ab", "c"), tokens("ab", "c"), of(0, 0, 1, 1))
}

// P24.1 and P24.2: every two short lists with all their valid lists.
func TestAllShortLists(t *testing.T) {
	use := func(a, b [][]byte) {
		for _, l := range valid(a, b, nil) {
			check(t, a, b, l)
		}
	}
	two(tokens("a", "b"), 4, use)
	two(tokens("ab", "a", "\n"), 3, use)
	two([][]byte{nil, {}, []byte("a")}, 3, use)
	r := rand.New(rand.NewSource(241))
	for range 300 {
		kinds := 2 + r.Intn(5)
		use(some(r, 7, kinds), some(r, 7, kinds))
	}
}

// P24.1: every list of few pairs in and about two short lists, valid or not.
func TestAllShortListsOfPairs(t *testing.T) {
	for _, c := range [][2]string{{"aa", "aaa"}, {"aba", "ba"}, {"a", "aa"}, {"c", ""}, {"", ""}, {"abb", "bab"}} {
		a, b := letters(c[0]), letters(c[1])
		use := func(l []api.Pair) { check(t, a, b, l) }
		lists(square(-1, 0, 1, 2, 3), 2, use)
		lists(square(lowest, 0, 1, 2, highest), 2, use)
		lists(square(0, 1, 2), 3, use)
	}
}

// P24.1 and P24.2: longer lists, with the least list and with drawn valid
// lists, and the same with one number changed.
func TestLongerLists(t *testing.T) {
	r := rand.New(rand.NewSource(242))
	hunks := 0
	for round := range 1000 {
		kinds := 1 + r.Intn(1+round%12)
		a, b := some(r, 60, kinds), some(r, 60, kinds)
		x, y, _ := names.Two(a, b)
		check(t, a, b, least.Of(x, y))
		check(t, a, b, nil)
		l := aligned(r, a, b)
		check(t, a, b, l)
		s, _ := edit.Make(a, b, l)
		hunks += len(s)
		for k := range l {
			for _, d := range of(1, 0, 0, 1, -1, 0, 0, -1, 1, 1, -1, -1) {
				check(t, a, b, put(l, k, api.Pair{I: l[k].I + d.I, J: l[k].J + d.J}))
			}
			check(t, a, b, slices.Delete(slices.Clone(l), k, k+1))
		}
	}
	if hunks < 5000 {
		t.Fatalf("only %d hunks", hunks)
	}
}

// P24.1: what lies in the memory before and behind a list is no part of it.
func TestMemoryAroundIsNoPart(t *testing.T) {
	whole := letters("abaaba")
	l := of(0, 2, 2, 3, 3, 5, 5, 6)
	for n := range len(whole) + 1 {
		for m := range len(whole) + 1 {
			for _, c := range [][2][][]byte{{whole[:n], whole[:m]}, {whole[n:], whole[:m]}, {whole[:n], whole[m:]}, {whole[n:], whole[m:]}} {
				for k := range len(l) + 1 {
					check(t, c[0], c[1], l[:k])
					check(t, c[0], c[1], l[k:])
				}
			}
		}
	}
	s := script(hunk(0, "a", ""), hunk(2, "", "b"), hunk(3, "c", "d"), hunk(2, "", ""))
	for n := range 6 {
		for k := range len(s) + 1 {
			checkScript(t, n, s[:k])
			checkScript(t, n, s[k:])
		}
	}
	longer := script(api.Hunk{At: 1, Old: whole[:1], New: whole[:0]}, api.Hunk{At: 3, Old: whole[:0], New: whole[:2]})
	for n := range 6 {
		checkScript(t, n, longer)
	}
	if del, ins := edit.Count(longer); del != 1 || ins != 2 {
		t.Errorf("P24.1: Count of parts of a list: %d, %d", del, ins)
	}
}

// goodCase is a script, and whether it is valid.
type goodCase struct {
	s    []api.Hunk
	want bool
}

// checkGood holds Good against what is told.
func checkGood(t *testing.T, cases []goodCase) {
	t.Helper()
	for k, c := range cases {
		if got := edit.Good(c.s); got != c.want {
			t.Errorf("P24.1: Good, number %d, %s: %v", k, told(c.s), got)
		}
		if goodWords(c.s) != c.want {
			t.Errorf("the test's own Good, number %d, %s: %v", k, told(c.s), !c.want)
		}
	}
}

// P24.1: Good of no hunks, and of places at the ends of what may be.
func TestGoodPlaces(t *testing.T) {
	checkGood(t, []goodCase{
		{nil, true}, {[]api.Hunk{}, true},
		{script(hunk(0, "a", "b")), true}, {script(hunk(1, "a", "b")), true}, {script(hunk(limit-1, "a", "b")), true}, {script(hunk(limit, "a", "b")), true}, {script(hunk(limit, "", "b")), true}, {script(hunk(limit, "aaa", "")), true},
		{script(hunk(-1, "a", "b")), false}, {script(hunk(-2, "aa", "b")), false}, {script(hunk(limit+1, "a", "b")), false}, {script(hunk(limit+1, "", "b")), false}, {script(hunk(limit+2, "a", "")), false},
		{script(hunk(lowest, "a", "b")), false}, {script(hunk(lowest+1, "a", "b")), false}, {script(hunk(highest, "a", "b")), false}, {script(hunk(highest-1, "a", "b")), false}, {script(hunk(1<<32, "a", "b")), false}, {script(hunk(-1<<32, "a", "b")), false}, {script(hunk(lowest+1<<32, "a", "b")), false}, {script(hunk(1<<31, "a", "b")), false}, {script(hunk(-1<<31, "a", "b")), false},
		{script(hunk(0, "a", ""), hunk(limit, "", "b")), true}, {script(hunk(0, "a", ""), hunk(limit+1, "", "b")), false}, {script(hunk(0, "a", ""), hunk(highest, "", "b")), false}, {script(hunk(0, "a", ""), hunk(lowest, "", "b")), false}, {script(hunk(0, "a", ""), hunk(-1, "", "b")), false},
		// The hunk ahead is at fault, and the one behind it is not.
		{script(hunk(-1, "", "a"), hunk(0, "", "b")), false}, {script(hunk(-1, "", "a"), hunk(1, "", "b")), false}, {script(hunk(lowest, "", "a"), hunk(1, "", "b")), false}, {script(hunk(highest, "a", "a"), hunk(1, "", "b")), false}, {script(hunk(highest, "a", "a"), hunk(lowest+1, "", "b")), false}, {script(hunk(limit+1, "a", "a"), hunk(limit+3, "", "b")), false},
	})
}

// P24.1: Good asks that a hunk begins behind the end of the one ahead.
func TestGoodOrder(t *testing.T) {
	checkGood(t, []goodCase{
		{script(hunk(0, "a", ""), hunk(0, "", "b")), false}, {script(hunk(0, "a", ""), hunk(1, "", "b")), false}, {script(hunk(0, "a", ""), hunk(2, "", "b")), true}, {script(hunk(0, "a", ""), hunk(3, "", "b")), true},
		{script(hunk(0, "", "a"), hunk(0, "", "b")), false}, {script(hunk(0, "", "a"), hunk(1, "", "b")), true}, {script(hunk(0, "", "aaa"), hunk(1, "b", "")), true}, {script(hunk(0, "", "aaa"), hunk(0, "b", "")), false},
		{script(hunk(4, "abc", "x"), hunk(6, "b", "")), false}, {script(hunk(4, "abc", "x"), hunk(7, "b", "")), false}, {script(hunk(4, "abc", "x"), hunk(8, "b", "")), true}, {script(hunk(4, "abc", "x"), hunk(5, "b", "")), false}, {script(hunk(4, "abc", "x"), hunk(4, "b", "")), false}, {script(hunk(4, "abc", "x"), hunk(3, "b", "")), false}, {script(hunk(4, "abc", "x"), hunk(0, "b", "")), false},
		{script(hunk(limit-1, "", "a"), hunk(limit, "", "b")), true}, {script(hunk(limit-1, "a", ""), hunk(limit, "", "b")), false}, {script(hunk(limit-2, "a", ""), hunk(limit, "", "b")), true}, {script(hunk(limit, "", "a"), hunk(limit, "", "b")), false}, {script(hunk(limit, "", "a"), hunk(limit+1, "", "b")), false},
		// In the middle and at the end of longer scripts.
		{script(hunk(0, "", "a"), hunk(1, "", "a"), hunk(2, "", "a")), true}, {script(hunk(0, "", "a"), hunk(1, "b", "a"), hunk(2, "", "a")), false}, {script(hunk(0, "b", "a"), hunk(1, "", "a"), hunk(3, "", "a")), false}, {script(hunk(0, "b", "a"), hunk(2, "b", "a"), hunk(4, "b", "")), true}, {script(hunk(0, "b", "a"), hunk(4, "b", "a"), hunk(2, "b", "")), false}, {script(hunk(2, "b", "a"), hunk(0, "b", "a"), hunk(4, "b", "")), false}, {script(hunk(0, "", "a"), hunk(3, "", "a"), hunk(1, "", "a")), false}, {script(hunk(0, "", "a"), hunk(2, "", "a"), hunk(0, "", "a")), false},
	})
}

// P24.1: Good asks for a token in each hunk, and for no empty token.
func TestGoodTokens(t *testing.T) {
	checkGood(t, []goodCase{
		{script(hunk(0, "", "")), false}, {script(hunk(limit, "", "")), false}, {script(hunk(0, "a", "")), true}, {script(hunk(0, "", "a")), true}, {script(hunk(0, "a", "a")), true}, {[]api.Hunk{{}}, false},
		{[]api.Hunk{{At: 0, Old: [][]byte{}, New: [][]byte{}}}, false}, {[]api.Hunk{{At: 0, Old: [][]byte{}, New: letters("a")}}, true}, {[]api.Hunk{{At: 0, Old: letters("a"), New: [][]byte{}}}, true},
		{script(hunk(0, "a", ""), hunk(2, "", "")), false}, {script(hunk(0, "", ""), hunk(2, "a", "")), false}, {script(hunk(0, "a", ""), hunk(2, "", ""), hunk(4, "", "a")), false},
		{[]api.Hunk{{Old: [][]byte{nil}}}, false}, {[]api.Hunk{{Old: [][]byte{{}}}}, false}, {[]api.Hunk{{New: [][]byte{nil}}}, false}, {[]api.Hunk{{New: [][]byte{{}}}}, false}, {[]api.Hunk{{Old: letters("a"), New: [][]byte{nil}}}, false}, {[]api.Hunk{{Old: [][]byte{nil}, New: letters("a")}}, false},
		{[]api.Hunk{{Old: tokens("a", "", "a")}}, false}, {[]api.Hunk{{Old: tokens("", "a", "a")}}, false}, {[]api.Hunk{{Old: tokens("a", "a", "")}}, false}, {[]api.Hunk{{New: tokens("a", "", "a")}}, false}, {[]api.Hunk{{New: tokens("", "a", "a")}}, false}, {[]api.Hunk{{New: tokens("a", "a", "")}}, false},
		{[]api.Hunk{{Old: tokens("a", "", "a"), New: letters("bbb")}}, false}, {[]api.Hunk{{Old: letters("bbb"), New: tokens("a", "a", "")}}, false},
		{script(hunk(0, "a", ""), api.Hunk{At: 3, New: tokens("a", "")}), false}, {script(hunk(0, "a", ""), api.Hunk{At: 3, Old: tokens("", "a")}, hunk(6, "a", "")), false}, {script(api.Hunk{At: 0, Old: tokens("")}, hunk(6, "a", "")), false},
		// Any bytes may be a token, also such as no mode cuts.
		{[]api.Hunk{{Old: tokens("\x00", "\n", "\n\n", "a\nb", "\xff\xfe"), New: tokens("\x00\x00", "abc")}}, true},
	})
}

// P24.1: Count of ordinary scripts, and of such as are not valid.
func TestCount(t *testing.T) {
	for k, c := range []struct {
		s        []api.Hunk
		del, ins int
	}{
		{nil, 0, 0}, {[]api.Hunk{}, 0, 0}, {script(hunk(0, "a", "")), 1, 0}, {script(hunk(0, "", "a")), 0, 1}, {script(hunk(3, "ab", "cde")), 2, 3}, {script(hunk(0, "ab", "c"), hunk(7, "", "def")), 2, 4}, {script(hunk(0, "ab", "c"), hunk(3, "d", "ef"), hunk(9, "ghij", "")), 7, 3},
		{script(hunk(0, "", "")), 0, 0}, {[]api.Hunk{{}, {}}, 0, 0}, {script(hunk(-5, "ab", "c"), hunk(-5, "", "def")), 2, 4}, {script(hunk(lowest, "ab", "c"), hunk(highest, "x", "y"), hunk(limit+1, "z", "")), 4, 2}, {script(hunk(0, "abc", "d"), hunk(1, "abc", "d"), hunk(0, "abc", "d")), 9, 3},
		{[]api.Hunk{{Old: [][]byte{nil, {}}, New: [][]byte{{}}}}, 2, 1}, {[]api.Hunk{{Old: tokens("abc", "de\n")}, {New: tokens("fghi", "", "j")}}, 2, 3},
	} {
		if del, ins := edit.Count(c.s); del != c.del || ins != c.ins {
			t.Errorf("P24.1: Count, number %d, %s: %d, %d", k, told(c.s), del, ins)
		}
	}
}

// P24.1: Pairs of ordinary scripts, with the pairs told.
func TestPairsTold(t *testing.T) {
	for k, c := range []struct {
		n    int
		s    []api.Hunk
		want []api.Pair
	}{
		// No hunks.
		{0, nil, nil}, {1, nil, of(0, 0)}, {4, nil, diagonal(4, 0, 0)}, {4, []api.Hunk{}, diagonal(4, 0, 0)},
		// All indices replaced, by one hunk; by several none of them could be.
		{1, script(hunk(0, "a", "")), nil}, {3, script(hunk(0, "abc", "")), nil}, {3, script(hunk(0, "abc", "xyzuv")), nil},
		// Hunks that only insert.
		{0, script(hunk(0, "", "x")), nil}, {3, script(hunk(0, "", "x")), diagonal(3, 0, 1)}, {3, script(hunk(3, "", "x")), diagonal(3, 0, 0)}, {3, script(hunk(1, "", "xyz")), of(0, 0, 1, 4, 2, 5)}, {2, script(hunk(0, "", "x"), hunk(1, "", "yz"), hunk(2, "", "uvw")), of(0, 1, 1, 4)},
		// Hunks that only delete.
		{3, script(hunk(0, "a", "")), of(1, 0, 2, 1)}, {3, script(hunk(1, "a", "")), of(0, 0, 2, 1)}, {3, script(hunk(2, "a", "")), of(0, 0, 1, 1)}, {6, script(hunk(0, "ab", ""), hunk(3, "c", ""), hunk(5, "d", "")), of(2, 0, 4, 1)},
		// Both.
		{5, script(hunk(1, "ab", "x"), hunk(4, "", "yz")), of(0, 0, 3, 2, 4, 5)}, {5, script(hunk(0, "ab", "xyz"), hunk(3, "c", "u")), of(2, 3, 4, 5)}, {3, script(hunk(1, "a", "xyz")), of(0, 0, 2, 4)}, {3, script(hunk(0, "a", "x"), hunk(2, "c", "z")), of(1, 1)}, {7, script(hunk(2, "", "x"), hunk(3, "abc", ""), hunk(7, "", "y")), of(0, 0, 1, 1, 2, 3, 6, 4)},
	} {
		if l, e := edit.Pairs(c.n, c.s); e != api.OK || !slices.Equal(l, c.want) {
			t.Errorf("P24.1: Pairs, number %d, %d and %s: %v, error %d", k, c.n, told(c.s), l, e)
		}
		checkScript(t, c.n, c.s)
	}
}

// P24.1: Pairs refuses numbers of tokens that may not be, and hunks that end
// beyond them; with the error there are no pairs (R2).
func TestPairsOfWrongNumbers(t *testing.T) {
	for k, c := range []struct {
		n int
		s []api.Hunk
		e api.Errno
	}{
		{0, nil, api.OK}, {-1, nil, api.EARG}, {-2, nil, api.EARG}, {lowest, nil, api.EARG}, {lowest + 1, nil, api.EARG}, {limit + 1, nil, api.EARG}, {limit + 2, nil, api.EARG}, {highest, nil, api.EARG}, {highest - 1, nil, api.EARG}, {1 << 32, nil, api.EARG}, {-1 << 32, nil, api.EARG}, {1 << 31, nil, api.EARG}, {-1 << 31, nil, api.EARG}, {lowest + 1<<32, nil, api.EARG},
		// A script does not make such a number a right one.
		{-1, script(hunk(0, "", "a")), api.EARG}, {lowest, script(hunk(0, "", "a")), api.EARG}, {limit + 1, script(hunk(0, "a", "a")), api.EARG}, {highest, script(hunk(limit, "a", "a")), api.EARG},
		// The last end is equal to n, or beyond it.
		{0, script(hunk(0, "a", "")), api.EARG}, {0, script(hunk(1, "", "a")), api.EARG}, {1, script(hunk(1, "", "a")), api.OK}, {1, script(hunk(1, "a", "")), api.EARG}, {1, script(hunk(2, "", "a")), api.EARG}, {2, script(hunk(1, "ab", "")), api.EARG}, {3, script(hunk(1, "ab", "")), api.OK}, {3, script(hunk(1, "abc", "")), api.EARG}, {3, script(hunk(3, "", "x")), api.OK}, {3, script(hunk(4, "", "x")), api.EARG}, {3, script(hunk(3, "a", "x")), api.EARG}, {3, script(hunk(limit, "", "x")), api.EARG},
		{4, script(hunk(0, "a", "x"), hunk(2, "ab", "")), api.OK}, {3, script(hunk(0, "a", "x"), hunk(2, "ab", "")), api.EARG}, {3, script(hunk(0, "a", "x"), hunk(3, "", "b")), api.OK}, {2, script(hunk(0, "a", "x"), hunk(3, "", "b")), api.EARG}, {1, script(hunk(0, "", "xxxx"), hunk(1, "", "b")), api.OK}, {2, script(hunk(0, "ab", "xxxx"), hunk(3, "a", "b")), api.EARG},
	} {
		l, e := edit.Pairs(c.n, c.s)
		if e != c.e || e != api.OK && l != nil {
			t.Errorf("P24.1: Pairs, number %d, %d and %s: %v, error %d", k, c.n, told(c.s), l, e)
		}
	}
}

// P24.1: Pairs refuses scripts that are not valid, each for one reason, also
// where the number of tokens would do.
func TestPairsOfWrongScripts(t *testing.T) {
	for k, s := range [][]api.Hunk{
		script(hunk(-1, "a", "")), script(hunk(-1, "", "a")), script(hunk(lowest, "", "a")), script(hunk(highest, "", "a")), script(hunk(limit+1, "", "a")),
		script(hunk(0, "a", ""), hunk(1, "", "b")), script(hunk(0, "a", ""), hunk(0, "", "b")), script(hunk(2, "a", ""), hunk(0, "", "b")), script(hunk(1, "", "a"), hunk(1, "", "b")), script(hunk(0, "abc", ""), hunk(1, "a", "")),
		script(hunk(0, "", "")), script(hunk(3, "", "")), script(hunk(0, "a", ""), hunk(3, "", "")), script(hunk(1, "", ""), hunk(3, "a", "")),
		{{At: 1, Old: [][]byte{nil}}}, {{At: 1, New: [][]byte{{}}}}, {{At: 1, Old: tokens("a", "")}}, {{At: 1, New: tokens("", "a")}}, script(hunk(0, "a", ""), api.Hunk{At: 3, Old: tokens(""), New: tokens("a")}),
	} {
		for _, n := range []int{0, 1, 2, 5, 100, limit, limit + 1, -1, lowest, highest} {
			if l, e := edit.Pairs(n, s); e != api.EARG || l != nil {
				t.Errorf("P24.1: Pairs, number %d, %d and %s: %v, error %d", k, n, told(s), l, e)
			}
		}
		checkScript(t, 5, s)
	}
}

// P24.1: every script of few hunks in and about short texts.
func TestAllShortScripts(t *testing.T) {
	old, now := [][][]byte{nil, letters("a"), letters("ab"), tokens("")}, [][][]byte{nil, letters("x"), tokens("x", "")}
	lists(cross([]int{-1, 0, 1, 2, 3}, old, now), 2, func(s []api.Hunk) {
		for n := -1; n <= 6; n++ {
			checkScript(t, n, s)
		}
	})
	lists(cross([]int{0, 1, 2, 3, 4}, old[:2], now[:2]), 3, func(s []api.Hunk) {
		for n := 0; n <= 6; n++ {
			checkScript(t, n, s)
		}
	})
	lists(cross([]int{lowest, 0, limit, limit + 1, highest}, old[:3], now[:2]), 2, func(s []api.Hunk) {
		for _, n := range []int{lowest, 0, 1, 4, highest} {
			checkScript(t, n, s)
		}
	})
}

// drawn returns a script that is valid unless it has an odd hunk.
func drawn(r *rand.Rand, hunks int, odd bool) []api.Hunk {
	var s []api.Hunk
	at := r.Intn(3)
	for range r.Intn(hunks + 1) {
		h := api.Hunk{At: at, Old: some(r, 3, 5), New: some(r, 3, 5)}
		if len(h.Old)+len(h.New) == 0 && !odd {
			h.New = letters("+")
		}
		s = append(s, h)
		at += len(h.Old) + 1 + r.Intn(4)
		if odd && r.Intn(hunks) == 0 {
			at -= 1 + r.Intn(4)
		}
	}
	return s
}

// P24.1: longer scripts, valid or not, with texts about their ends.
func TestLongerScripts(t *testing.T) {
	r := rand.New(rand.NewSource(243))
	for round := range 3000 {
		s := drawn(r, 20, round%2 == 0)
		if round%2 == 1 && !goodWords(s) {
			t.Fatalf("the test's own script is not valid: %s", told(s))
		}
		last := 0
		if len(s) > 0 {
			last = s[len(s)-1].At + len(s[len(s)-1].Old)
		}
		for _, n := range []int{last - 1, last, last + 1, last + r.Intn(20)} {
			checkScript(t, n, s)
		}
	}
}

// P24.2 at the limit: equal lists, lists without a pair, one hunk at every
// place that may be, and hunks that only delete or only insert.
func TestAtTheLimit(t *testing.T) {
	long, whole := numbered(limit), diagonal(limit, 0, 0)
	checkTold(t, long, long, whole, nil)
	checkTold(t, long, long, nil, script(api.Hunk{At: 0, Old: long, New: long}))
	checkTold(t, long, nil, nil, script(api.Hunk{At: 0, Old: long}))
	checkTold(t, nil, long, nil, script(api.Hunk{At: 0, New: long}))
	checkTold(t, long[:limit-1], long, whole[:limit-1], script(api.Hunk{At: limit - 1, New: long[limit-1:]}))
	checkTold(t, long, long[1:], diagonal(limit-1, 1, 0), script(api.Hunk{At: 0, Old: long[:1]}))
	checkTold(t, long, long[:limit-1], whole[:limit-1], script(api.Hunk{At: limit - 1, Old: long[limit-1:]}))
	equal := equals(limit, "a")
	checkTold(t, equal, equal, diagonal(limit-1, 1, 0), script(hunk(0, "a", ""), hunk(limit, "", "a")))
	checkTold(t, equal, equal, diagonal(limit-1, 0, 1), script(hunk(0, "", "a"), hunk(limit-1, "a", "")))
	checkWrong(t, long, long, diagonal(limit, 0, 1))
	checkWrong(t, equal, equal, put(whole, limit-1, api.Pair{I: limit, J: limit - 1}))
	checkWrong(t, equal, equal, put(whole, limit-1, api.Pair{I: limit - 1, J: limit}))
	checkWrong(t, equal, equal, put(whole, limit-1, api.Pair{I: limit - 1, J: limit - 2}))
	other := slices.Clone(equal)
	other[limit-1] = []byte("b")
	checkWrong(t, equal, other, whole)
}

// P24.1 and P24.2 at the limit: as many hunks as there may be.
func TestManyHunks(t *testing.T) {
	// Every second token of b is not that of a.
	a, b := equals(limit, "a"), equals(limit, "b")
	var l []api.Pair
	var want []api.Hunk
	for i := range limit {
		if i%2 == 1 {
			b[i] = a[i]
			l = append(l, api.Pair{I: i, J: i})
		} else {
			want = append(want, hunk(i, "a", "b"))
		}
	}
	checkTold(t, a, b, l, want)
	// One token before and behind each of a text.
	s := make([]api.Hunk, limit+1)
	for i := range s {
		s[i] = api.Hunk{At: i, New: a[:1]}
	}
	stay, e := edit.Pairs(limit, s)
	if e != api.OK || len(stay) != limit {
		t.Fatalf("P24.1: Pairs of %d hunks: %d pairs, error %d", len(s), len(stay), e)
	}
	for i, p := range stay {
		if p.I != i || p.J != 2*i+1 {
			t.Fatalf("P24.1: Pairs of %d hunks: %v at %d", len(s), p, i)
		}
	}
	if del, ins := edit.Count(s); del != 0 || ins != limit+1 || !edit.Good(s) {
		t.Errorf("P24.1: Count of %d hunks: %d, %d; Good: %v", len(s), del, ins, edit.Good(s))
	}
	if l, e := edit.Pairs(limit-1, s); e != api.EARG || l != nil {
		t.Errorf("P24.1: Pairs for a text that is too short: %d pairs, error %d", len(l), e)
	}
	if l, e := edit.Pairs(limit, nil); e != api.OK || !slices.Equal(l, diagonal(limit, 0, 0)) {
		t.Errorf("P24.1: Pairs of no hunks: %d pairs, error %d", len(l), e)
	}
	if l, e := edit.Pairs(limit, script(api.Hunk{At: 0, Old: a})); e != api.OK || len(l) != 0 {
		t.Errorf("P24.1: Pairs of a text that goes: %d pairs, error %d", len(l), e)
	}
	if l, e := edit.Pairs(limit, script(api.Hunk{At: 1, Old: a})); e != api.EARG || l != nil {
		t.Errorf("P24.1: Pairs of a hunk beyond the text: %d pairs, error %d", len(l), e)
	}
}

// R1: no lists, pairs or scripts make a call panic, also above the limit.
func TestNoPanic(t *testing.T) {
	odd := []int{lowest, lowest + 1, -1, 0, 1, 2, limit - 1, limit, limit + 1, highest - 1, highest}
	all := square(odd...)
	for _, a := range [][][]byte{nil, {nil}, letters("aaa")} {
		for _, b := range [][][]byte{nil, {{}, nil}, letters("ba")} {
			for _, p := range all {
				for _, q := range all {
					edit.Make(a, b, []api.Pair{p, q})
				}
			}
			edit.Make(a, b, all)
		}
	}
	hunks := cross(odd, [][][]byte{nil, {nil}, letters("aa")}, [][][]byte{nil, letters("b")})
	askAll := func(s []api.Hunk) {
		edit.Good(s)
		edit.Count(s)
		for _, n := range odd {
			edit.Pairs(n, s)
		}
	}
	askAll(hunks)
	for _, g := range hunks {
		for _, h := range hunks {
			askAll(script(g, h))
		}
	}
	equal, whole := equals(limit+1, "a"), diagonal(limit+1, 0, 0)
	edit.Make(equal, equal, whole)
	edit.Make(equal, equal, nil)
	edit.Make(equal, letters("aa"), whole)
	edit.Make(letters("aa"), letters("aa"), whole)
	askAll(script(api.Hunk{At: 0, Old: equal, New: equal}))
	askAll(script(api.Hunk{At: 0, Old: equal}, api.Hunk{At: limit + 2, New: equal}))
	askAll(script(api.Hunk{At: 0, New: equal}, api.Hunk{At: limit, Old: equal}))
	askAll(make([]api.Hunk, limit+2))
	askAll(slices.Repeat(script(hunk(3, "a", "b")), limit+2))
}

// sample is two lists of texts with a list of pairs.
type sample struct {
	a, b []string
	l    []api.Pair
}

// samples are ordinary ones, ones without a pair or a token, and such with
// lists of pairs that are not valid.
func samples() []sample {
	return []sample{
		{[]string{"a", "b"}, []string{"b", "c"}, of(1, 0)}, {[]string{"one\n", "\n", "two"}, []string{"\n", "two", "three\n"}, of(1, 0, 2, 1)}, {[]string{"x", "a", "x", "a", "x"}, []string{"a", "yy", "yy", "a"}, of(1, 0, 3, 3)}, {[]string{"a", "a", "a", "a"}, []string{"a", "a", "a"}, of(1, 0, 2, 2)},
		{[]string{"a", "b", "c"}, []string{"d", "e"}, nil}, {[]string{"a", "b", "c"}, nil, nil}, {nil, []string{"dd", "dd"}, nil}, {nil, nil, nil}, {[]string{"a", "b"}, []string{"a", "b"}, of(0, 0, 1, 1)}, {[]string{"", "a", ""}, []string{"", "", "b"}, of(2, 1)},
		{[]string{"a", "b"}, []string{"b", "a"}, of(0, 0)}, {[]string{"a", "b"}, []string{"a", "b"}, of(1, 1, 0, 0)}, {[]string{"a"}, nil, of(0, 0)},
	}
}

// roomy makes a list of tokens from texts, with spare capacity in the list and
// in each token; memory is the whole of it.
func roomy(texts []string) (l [][]byte, memory [][]byte) {
	for _, s := range append(slices.Clone(texts), "spare", "spare") {
		whole := []byte(s + "~~~~~")
		memory = append(memory, whole)
		l = append(l, whole[:len(s)])
	}
	return l[:len(texts):len(l)], memory
}

// stayed tells whether what roomy made is as it was, with all spare capacity.
func stayed(l, memory [][]byte, texts []string) bool {
	whole := l[:len(texts)+2]
	for k, s := range append(slices.Clone(texts), "spare", "spare") {
		if string(whole[k]) != s || len(whole[k]) != len(s) || string(memory[k]) != s+"~~~~~" {
			return false
		}
	}
	return len(l) == len(texts)
}

// fill overwrites a list and its spare capacity.
func fill[E any](l []E, with E) {
	l = l[:cap(l)]
	for i := range l {
		l[i] = with
	}
}

// scribble overwrites tokens, with the spare capacity of each, and then their
// list with its spare capacity.
func scribble(l [][]byte) {
	for _, t := range l[:cap(l)] {
		fill(t, '#')
	}
	fill(l, []byte("###"))
}

// scribbleScript overwrites all memory of a script.
func scribbleScript(s []api.Hunk) {
	for _, h := range s[:cap(s)] {
		scribble(h.Old)
		scribble(h.New)
	}
	fill(s, api.Hunk{At: -9, Old: letters("#"), New: letters("#")})
}

// R4: Make modifies no argument, nor its spare capacity, and neither does who
// changes its result.
func TestArgumentsOfMakeStay(t *testing.T) {
	spare := api.Pair{I: 77, J: 78}
	for _, c := range samples() {
		a, aMemory := roomy(c.a)
		b, bMemory := roomy(c.b)
		wholeL := append(slices.Clone(c.l), spare, spare)
		l := wholeL[:len(c.l)]
		isAsWas := func() bool {
			return stayed(a, aMemory, c.a) && stayed(b, bMemory, c.b) && slices.Equal(wholeL, append(slices.Clone(c.l), spare, spare))
		}
		s, e := edit.Make(a, b, l)
		if !isAsWas() {
			t.Fatalf("R4: Make modified %q, %q or %v", c.a, c.b, c.l)
		}
		if good(a, b, l) {
			want := makeWords(tokens(c.a...), tokens(c.b...), c.l)
			if e != api.OK || !same(s, want) {
				t.Errorf("P24.1: Make of %q, %q and %v: %s, error %d", c.a, c.b, c.l, told(s), e)
			}
		}
		scribbleScript(s)
		s = append(s, api.Hunk{At: -8})
		if !isAsWas() {
			t.Fatalf("R4: the script shares memory with %q, %q or %v", c.a, c.b, c.l)
		}
	}
}

// roomyScript returns a script whose lists and tokens have spare capacity, and
// a call that tells whether all of it is as it was.
func roomyScript(s []api.Hunk) ([]api.Hunk, func() bool) {
	whole := make([]api.Hunk, 0, len(s)+2)
	var checks []func() bool
	for _, h := range append(slices.Clone(s), hunk(77, "a", "b"), hunk(78, "", "c")) {
		var texts [2][]string
		for k, l := range [][][]byte{h.Old, h.New} {
			for _, t := range l {
				texts[k] = append(texts[k], string(t))
			}
		}
		old, oldMemory := roomy(texts[0])
		now, nowMemory := roomy(texts[1])
		index := len(whole)
		whole = append(whole, api.Hunk{At: h.At, Old: old, New: now})
		checks = append(checks, func() bool {
			g := whole[index]
			return g.At == h.At && stayed(g.Old, oldMemory, texts[0]) && stayed(g.New, nowMemory, texts[1])
		})
	}
	return whole[:len(s)], func() bool {
		for _, ok := range checks {
			if !ok() {
				return false
			}
		}
		return true
	}
}

// R4: Good, Count and Pairs modify no script, nor its spare capacity, and
// neither does who changes the pairs.
func TestScriptsStay(t *testing.T) {
	r := rand.New(rand.NewSource(244))
	for round := range 200 {
		was := drawn(r, 6, round%2 == 0)
		s, isAsWas := roomyScript(was)
		checkScript(t, 60, s)
		if !isAsWas() {
			t.Fatalf("R4: a call modified %s", told(was))
		}
		l, e := edit.Pairs(60, s)
		want := slices.Clone(l)
		second, _ := edit.Pairs(60, s)
		fill(l, api.Pair{I: -7, J: -7})
		l = append(l, api.Pair{I: -8, J: -8})
		if !isAsWas() {
			t.Fatalf("R4: pairs share memory with %s", told(was))
		}
		third, again := edit.Pairs(60, s)
		scribbleScript(s)
		if e != again || !slices.Equal(second, want) || !slices.Equal(third, want) {
			t.Fatalf("R4: Pairs of %s: %v, then %v and %v", told(was), want, second, third)
		}
	}
}

// R4: within a script no two tokens and no two lists share memory: whoever
// changes one, with its spare capacity, changes nothing else.
func TestNothingIsSharedWithinAScript(t *testing.T) {
	for _, c := range samples() {
		// One piece of memory for all that are the same.
		pieces := map[string][]byte{}
		list := func(texts []string) [][]byte {
			var l [][]byte
			for _, s := range texts {
				if pieces[s] == nil {
					pieces[s] = []byte(s)
				}
				l = append(l, pieces[s])
			}
			return l
		}
		a, b := list(c.a), list(c.b)
		if !good(a, b, c.l) {
			continue
		}
		want := makeWords(tokens(c.a...), tokens(c.b...), c.l)
		for k, h := range want {
			for n, size := range []int{len(h.Old), len(h.New)} {
				for at := range size + 1 {
					s, _ := edit.Make(a, b, c.l)
					l := [][][]byte{s[k].Old, s[k].New}[n]
					wanted := [][][]byte{want[k].Old, want[k].New}[n]
					if at < size {
						fill(l[at], '#')
						_ = append(l[at], "##"...)
						l[at] = wanted[at]
					} else {
						fill(l, []byte("###"))
						_ = append(l, []byte("##"))
						copy(l, wanted)
					}
					if !same(s, want) {
						t.Fatalf("R4: %s of %q, %q and %v shares memory at hunk %d, list %d, token %d", told(s), c.a, c.b, c.l, k, n, at)
					}
				}
			}
		}
	}
}

// R4 and R5: results are new memory each time: whoever changes one, or an
// argument, changes no other result.
func TestResultsAreNew(t *testing.T) {
	for _, c := range samples() {
		a, b, l := tokens(c.a...), tokens(c.b...), slices.Clone(c.l)
		first, e := edit.Make(a, b, l)
		second, _ := edit.Make(a, b, l)
		var want []api.Hunk
		if good(a, b, l) {
			want = makeWords(tokens(c.a...), tokens(c.b...), c.l)
		}
		scribbleScript(first)
		first = append(first, api.Hunk{At: -8})
		third, again := edit.Make(a, b, l)
		scribble(a)
		scribble(b)
		fill(l, api.Pair{I: -7, J: -7})
		if e != again || !same(second, want) || !same(third, want) {
			t.Errorf("R4: Make of %q, %q and %v: %s and %s, not %s", c.a, c.b, c.l, told(second), told(third), told(want))
		}
	}
}

// R4: a nil list and an empty one are the same, as any argument.
func TestNilAndEmpty(t *testing.T) {
	for _, a := range [][][]byte{nil, {}} {
		for _, b := range [][][]byte{nil, {}} {
			for _, none := range [][]api.Pair{nil, {}} {
				checkTold(t, a, b, none, nil)
				checkTold(t, letters("x"), b, none, script(hunk(0, "x", "")))
				checkTold(t, a, letters("x"), none, script(hunk(0, "", "x")))
				checkTold(t, letters("x"), letters("x"), none, script(hunk(0, "x", "x")))
			}
			checkWrong(t, a, b, of(0, 0))
			checkWrong(t, letters("x"), b, of(0, 0))
			checkWrong(t, a, letters("x"), of(0, 0))
			// As the lists of a hunk.
			checkGood(t, []goodCase{{[]api.Hunk{{At: 1, Old: a, New: b}}, false}, {[]api.Hunk{{At: 1, Old: a, New: letters("x")}}, true}, {[]api.Hunk{{At: 1, Old: letters("x"), New: b}}, true}})
			checkScript(t, 2, []api.Hunk{{At: 0, Old: a, New: letters("x")}, {At: 1, Old: letters("x"), New: b}})
			checkScript(t, 2, []api.Hunk{{At: 0, Old: a, New: b}})
		}
	}
	for _, s := range [][]api.Hunk{nil, {}} {
		if del, ins := edit.Count(s); del != 0 || ins != 0 || !edit.Good(s) {
			t.Errorf("P24.1: Count of no hunks: %d, %d; Good: %v", del, ins, edit.Good(s))
		}
		for n := range 4 {
			if l, e := edit.Pairs(n, s); e != api.OK || !slices.Equal(l, diagonal(n, 0, 0)) {
				t.Errorf("P24.1: Pairs of %d and no hunks: %v, error %d", n, l, e)
			}
		}
	}
	// As a token: equal to each other.
	for _, x := range [][]byte{nil, {}} {
		for _, y := range [][]byte{nil, {}} {
			check(t, [][]byte{x}, [][]byte{y}, of(0, 0))
			checkGood(t, []goodCase{{[]api.Hunk{{Old: [][]byte{x}, New: [][]byte{y}}}, false}})
		}
	}
}

// R5: answers hang on the arguments alone: the lists may be one piece of
// memory or several, and what was asked before does not matter.
func TestAnswersStay(t *testing.T) {
	whole := letters("aabaab")
	l := of(0, 0, 1, 1, 2, 2)
	for range 4 {
		for _, c := range [][2][][]byte{{whole, whole}, {whole[:3], whole[3:]}, {whole[3:], whole[:3]}, {whole, whole[3:]}, {whole[:3], whole}, {whole[1:], whole[3:]}, {nil, whole}, {whole, nil}, {letters("aabaab"), whole}} {
			for n := range len(l) + 1 {
				check(t, c[0], c[1], l[:n])
			}
		}
		h := api.Hunk{At: 0, Old: whole[:2], New: whole[1:4]}
		checkScript(t, 9, script(h, api.Hunk{At: 3, Old: whole[:2], New: whole[:2]}))
		checkScript(t, 9, script(h, h))
	}
}

// P24.2: the pairs of a script are those that other packages find valid, and
// those of least come back.
func TestWithOtherPackages(t *testing.T) {
	r := rand.New(rand.NewSource(245))
	for range 300 {
		a, b := some(r, 40, 4), some(r, 40, 4)
		x, y, _ := names.Two(a, b)
		want := least.Of(x, y)
		s, e := edit.Make(a, b, want)
		l, f := edit.Pairs(len(a), s)
		if e != api.OK || f != api.OK || !slices.Equal(l, want) || !pairs.Good(x, y, l) || !least.Is(x, y, l) {
			t.Fatalf("P24.2: %q and %q: %v, errors %d and %d", a, b, l, e, f)
		}
	}
}

// R5: many goroutines at once, with the same lists and with lists of their
// own.
func TestManyAtOnce(t *testing.T) {
	shared := rand.New(rand.NewSource(246))
	for round := range 30 {
		a, b := some(shared, 60, 5), some(shared, 60, 5)
		all := [][]api.Pair{nil, aligned(shared, a, b), aligned(shared, a, b), of(-1, 0), of(0, len(b))}
		s := drawn(shared, 20, round%2 == 0)
		var group sync.WaitGroup
		start := make(chan bool)
		faults := make([]string, 8)
		for g := range faults {
			group.Go(func() {
				r := rand.New(rand.NewSource(int64(100*round + g)))
				<-start
				for k := range 20 {
					c, d := some(r, 20, 3), some(r, 20, 3)
					for _, f := range []string{eitherFault(a, b, all[(k+g)%len(all)]), scriptFault(k+g, s), eitherFault(c, d, aligned(r, c, d)), scriptFault(30, drawn(r, 9, k%2 == 0))} {
						if f != "" {
							faults[g] = f
						}
					}
				}
			})
		}
		close(start)
		group.Wait()
		for g, f := range faults {
			if f != "" {
				t.Fatalf("R5: goroutine %d: %s", g, f)
			}
		}
	}
}
