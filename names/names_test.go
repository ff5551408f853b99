package names_test

import (
	"bytes"
	"math/rand"
	"slices"
	"strconv"
	"testing"

	"tatting/api"
	"tatting/names"
)

// tokens makes a list of tokens from texts.
func tokens(texts ...string) [][]byte {
	l := make([][]byte, 0, len(texts))
	for _, s := range texts {
		l = append(l, []byte(s))
	}
	return l
}

func texts(l [][]byte) []string {
	s := make([]string, 0, len(l))
	for _, t := range l {
		s = append(s, string(t))
	}
	return s
}

func same(l [][]byte, want []string) bool {
	return slices.Equal(texts(l), want)
}

// lists calls use with every list of up to length tokens from the alphabet.
func lists(alphabet []string, length int, use func([]string)) {
	use(nil)
	last := [][]string{nil}
	for range length {
		var next [][]string
		for _, l := range last {
			for _, s := range alphabet {
				next = append(next, append(slices.Clone(l), s))
			}
		}
		for _, l := range next {
			use(l)
		}
		last = next
	}
}

// sorted says by the words of the chapter what Sort returns: Go compares
// strings bytewise, and a prefix precedes a longer one.
func sorted(l []string) []string {
	once := map[string]bool{}
	var want []string
	for _, s := range l {
		if !once[s] {
			once[s] = true
			want = append(want, s)
		}
	}
	slices.Sort(want)
	return want
}

// scribble overwrites a token and its spare capacity.
func scribble(b []byte) {
	b = b[:cap(b)]
	for i := range b {
		b[i] = '#'
	}
}

// P2.1
func TestSort(t *testing.T) {
	for _, c := range []struct {
		list [][]byte
		want []string
	}{
		{nil, nil},
		{[][]byte{}, nil},
		{tokens("a"), []string{"a"}},
		{tokens("a", "a", "a"), []string{"a"}},
		{tokens("b", "a", "c", "b"), []string{"a", "b", "c"}},
		{tokens("a", "b", "a", "b"), []string{"a", "b"}},
		{[][]byte{nil}, []string{""}},
		{[][]byte{nil, {}, nil}, []string{""}},
		{[][]byte{[]byte("a"), nil, []byte("a"), {}}, []string{"", "a"}},
		{tokens("abc", "ab", "b", "a", ""), []string{"", "a", "ab", "abc", "b"}},
		{tokens("b", "aaa"), []string{"aaa", "b"}},
		{tokens("\xff", "\x80", "\x7f", "\x00"), []string{"\x00", "\x7f", "\x80", "\xff"}},
		{tokens("a\xff", "b", "a\x00", "a"), []string{"a", "a\x00", "a\xff", "b"}},
		{tokens("\xc3\xa4", "z", "\xef\xbf\xbd", "\xff"), []string{"z", "\xc3\xa4", "\xef\xbf\xbd", "\xff"}},
		{tokens("b", "B", "a", "A"), []string{"A", "B", "a", "b"}},
		{tokens("10\n", "9\n", "\n"), []string{"\n", "10\n", "9\n"}},
	} {
		if got := names.Sort(c.list); !same(got, c.want) {
			t.Errorf("P2.1: Sort(%q): %q", c.list, got)
		}
	}
}

// P2.1: a token is found where it stands, and nowhere else.
func TestFind(t *testing.T) {
	d := names.Sort(tokens("", "a", "ab", "b", "\x7f", "\x80", "\xff"))
	for i, s := range []string{"", "a", "ab", "b", "\x7f", "\x80", "\xff"} {
		if k, ok := names.Find(d, []byte(s)); k != i || !ok {
			t.Errorf("P2.1: Find(%q): %d, %v", s, k, ok)
		}
	}
	if k, ok := names.Find(d, nil); k != 0 || !ok {
		t.Errorf("P2.1: Find of the empty token: %d, %v", k, ok)
	}
	for _, s := range []string{"\x00", "A", "aa", "abb", "abc", "ba", "c", "\x81", "\xff\x00", "\xff\xff"} {
		if k, ok := names.Find(d, []byte(s)); k != 0 || ok {
			t.Errorf("P2.1: Find(%q): %d, %v", s, k, ok)
		}
	}
}

// P2.1: lists of no tokens and of one token.
func TestFindInShortLists(t *testing.T) {
	for _, c := range []struct {
		list  [][]byte
		token string
		want  bool
	}{
		{nil, "", false},
		{nil, "a", false},
		{[][]byte{}, "", false},
		{tokens("b"), "b", true},
		{tokens("b"), "", false},
		{tokens("b"), "a", false},
		{tokens("b"), "bb", false},
		{tokens("b"), "c", false},
		{tokens("bb"), "b", false},
		{tokens(""), "", true},
		{tokens(""), "\x00", false},
	} {
		if k, ok := names.Find(c.list, []byte(c.token)); k != 0 || ok != c.want {
			t.Errorf("P2.1: Find(%q, %q): %d, %v", c.list, c.token, k, ok)
		}
	}
}

// P2.1
func TestIds(t *testing.T) {
	d := names.Sort(tokens("", "a", "ab", "\xff"))
	for _, c := range []struct {
		list [][]byte
		want []int
	}{
		{nil, nil},
		{[][]byte{}, nil},
		{tokens("\xff"), []int{3}},
		{tokens("a", "a", "a"), []int{1, 1, 1}},
		{[][]byte{nil, []byte("ab"), {}}, []int{0, 2, 0}},
		{tokens("\xff", "ab", "a", "", "ab"), []int{3, 2, 1, 0, 2}},
	} {
		if got, ok := names.Ids(d, c.list); !ok || !slices.Equal(got, c.want) {
			t.Errorf("P2.1: Ids(%q): %d, %v", c.list, got, ok)
		}
	}
	if got, ok := names.Ids(nil, nil); !ok || len(got) != 0 {
		t.Errorf("P2.1: Ids of nothing in nothing: %d, %v", got, ok)
	}
}

// P2.1 and R2: beside false there is nothing, wherever the token stands that
// the list does not contain.
func TestIdsOfStrangers(t *testing.T) {
	for _, d := range [][][]byte{nil, {}, names.Sort(tokens("a", "c", "e"))} {
		for _, l := range [][][]byte{
			tokens("b"), tokens("b", "a", "c"), tokens("a", "b", "c"), tokens("a", "c", "b"),
			tokens(""), {nil}, tokens("a", ""), tokens("aa"), tokens("f"), tokens("e", "\xff"),
		} {
			if got, ok := names.Ids(d, l); ok || len(got) != 0 {
				t.Errorf("P2.1: Ids(%q, %q): %d, %v", d, l, got, ok)
			}
		}
	}
}

// P2.1
func TestTwo(t *testing.T) {
	for _, c := range []struct {
		a, b [][]byte
		x, y []int
		n    int
	}{
		{nil, nil, nil, nil, 0},
		{[][]byte{}, nil, nil, nil, 0},
		{tokens("b", "a"), tokens("c", "b"), []int{1, 0}, []int{2, 1}, 3},
		{tokens("b", "a", "b"), nil, []int{1, 0, 1}, nil, 2},
		{nil, tokens("b", "a", "b"), nil, []int{1, 0, 1}, 2},
		{tokens("a"), tokens("a"), []int{0}, []int{0}, 1},
		{tokens("a"), tokens("b"), []int{0}, []int{1}, 2},
		{tokens("b"), tokens("a"), []int{1}, []int{0}, 2},
		{[][]byte{nil, []byte("a")}, [][]byte{{}}, []int{0, 1}, []int{0}, 2},
		{tokens("abc", "a"), tokens("ab", ""), []int{3, 1}, []int{2, 0}, 4},
		{tokens("\xff", "z"), tokens("\x80", "\x7f"), []int{3, 0}, []int{2, 1}, 4},
		{tokens("x\n", "\n", "x"), tokens("x", "\n"), []int{2, 0, 1}, []int{1, 0}, 3},
	} {
		x, y, n := names.Two(c.a, c.b)
		if !slices.Equal(x, c.x) || !slices.Equal(y, c.y) || n != c.n {
			t.Errorf("P2.1: Two(%q, %q): %d, %d, %d", c.a, c.b, x, y, n)
		}
	}
}

// P2.1: every list of up to five tokens, some of them prefixes of others.
func TestShortLists(t *testing.T) {
	alphabet := []string{"b", "", "ab", "a", "\xff"}
	strangers := []string{"\x00", "aa", "abc", "ba", "c", "\xff\x00"}
	lists(alphabet, 5, func(l []string) {
		want := sorted(l)
		d := names.Sort(tokens(l...))
		if !same(d, want) {
			t.Fatalf("P2.1: Sort(%q): %q", l, d)
		}
		for _, s := range slices.Concat(alphabet, strangers) {
			i := slices.Index(want, s)
			k, ok := names.Find(d, []byte(s))
			if ok != (i >= 0) || k != max(i, 0) {
				t.Fatalf("P2.1: Find(%q, %q): %d, %v", d, s, k, ok)
			}
		}
		ids, ok := names.Ids(d, tokens(l...))
		if !ok || len(ids) != len(l) {
			t.Fatalf("P2.1: Ids(%q, %q): %d, %v", d, l, ids, ok)
		}
		for i, s := range l {
			if ids[i] != slices.Index(want, s) {
				t.Fatalf("P2.1: Ids(%q, %q): %d", d, l, ids)
			}
		}
	})
}

// checkTwo holds the numbers of two lists against the words of P2.2.
func checkTwo(t *testing.T, a, b []string) {
	t.Helper()
	x, y, n := names.Two(tokens(a...), tokens(b...))
	if len(x) != len(a) || len(y) != len(b) {
		t.Fatalf("P2.1: Two(%q, %q): %d, %d, %d", a, b, x, y, n)
	}
	all, ids := slices.Concat(a, b), slices.Concat(x, y)
	stands := make([]bool, n)
	for i, k := range ids {
		if k < 0 || k >= n {
			t.Fatalf("P2.2: Two(%q, %q): %d, %d, %d", a, b, x, y, n)
		}
		stands[k] = true
		for j := range i {
			if (ids[j] == k) != (all[j] == all[i]) || (ids[j] < k) != (all[j] < all[i]) {
				t.Fatalf("P2.2: Two(%q, %q): %d, %d, %d", a, b, x, y, n)
			}
		}
	}
	if slices.Contains(stands, false) {
		t.Fatalf("P2.2: Two(%q, %q): a number of %d stands for no token", a, b, n)
	}
}

// P2.2: every two short lists.
func TestTwoOfShortLists(t *testing.T) {
	alphabet := []string{"b", "", "ba", "\xff"}
	lists(alphabet, 3, func(a []string) {
		lists(alphabet, 3, func(b []string) {
			checkTwo(t, a, b)
		})
	})
}

// P2.2: longer lists, of tokens of many lengths and of all bytes.
func TestTwoOfManyLists(t *testing.T) {
	r := rand.New(rand.NewSource(7))
	some := func() []string {
		l := make([]string, r.Intn(60))
		letters := 1 + r.Intn(256)
		for i := range l {
			b := make([]byte, r.Intn(5))
			for k := range b {
				b[k] = byte(255 - r.Intn(letters))
			}
			l[i] = string(b)
		}
		return l
	}
	for range 200 {
		checkTwo(t, some(), some())
	}
}

// P2.1: bytes are compared as numbers from 0 to 255.
func TestEveryByte(t *testing.T) {
	var down [][]byte
	for k := 255; k >= 0; k-- {
		down = append(down, []byte{byte(k)})
	}
	d := names.Sort(down)
	if len(d) != 256 {
		t.Fatalf("P2.1: Sort of all bytes: %d tokens", len(d))
	}
	for k := range 256 {
		if i, ok := names.Find(d, []byte{byte(k)}); d[k][0] != byte(k) || i != k || !ok {
			t.Errorf("P2.1: byte %d stands at %d, %v", k, i, ok)
		}
	}
}

// numbered returns n distinct tokens, the last one first.
func numbered(n int) [][]byte {
	l := make([][]byte, n)
	for i := range l {
		l[i] = strconv.AppendInt(nil, int64(2*n-i), 10)
	}
	return l
}

// P2.1 and P2.2 at the limit of both lists, which have no token in common;
// the numbers of one list are then all there is below those of the other.
func TestManyTokens(t *testing.T) {
	a := numbered(api.MaxTokens)
	b := make([][]byte, api.MaxTokens)
	for i := range b {
		b[i] = append([]byte("x"), a[i]...)
	}
	x, y, n := names.Two(a, b)
	if len(x) != len(a) || len(y) != len(b) || n != 2*api.MaxTokens {
		t.Fatalf("P2.2: Two at the limit: %d, %d, %d", len(x), len(y), n)
	}
	for i := range x {
		if x[i]+api.MaxTokens != y[i] {
			t.Fatalf("P2.2: Two at the limit: token %d: %d and %d", i, x[i], y[i])
		}
	}
	if slices.Min(x) != 0 || slices.Max(y) != n-1 {
		t.Errorf("P2.2: Two at the limit: from %d to %d", slices.Min(x), slices.Max(y))
	}
}

// R1: above the limit, and in lists that Sort does not return, a call still
// ends without a panic.
func TestNoPanic(t *testing.T) {
	l := make([][]byte, api.MaxTokens+1)
	names.Two(l, l)
	for _, d := range [][][]byte{tokens("b", "a"), tokens("a", "a"), {nil, []byte("b"), nil}, tokens("c", "a", "b", "a")} {
		names.Find(d, []byte("a"))
		names.Ids(d, tokens("a", "b", ""))
		names.Ids(d, d)
	}
}

// R4: no call modifies an argument or its spare capacity.
func TestArgumentsStay(t *testing.T) {
	whole := []byte("caab~~~~")
	kept := bytes.Clone(whole)
	list := [][]byte{whole[0:1], whole[1:2], whole[2:3], whole[3:4], []byte("spare"), nil}
	want := texts(list)
	other := tokens("d", "a", "spare", "spare")
	d := tokens("a", "b", "c", "spare")
	names.Sort(list[:4])
	names.Sort(list[:3])
	names.Two(list[:4], other[:2])
	names.Two(other[:2], list[:4])
	names.Two(list[:2], list[2:4])
	names.Find(d[:3], list[1])
	names.Find(d[:3], []byte("x"))
	names.Ids(d[:3], list[:4])
	names.Ids(d[:3], other[:2])
	if !bytes.Equal(whole, kept) || !same(list, want) {
		t.Errorf("R4: a list was modified: %q, %q", whole, list)
	}
	if !same(other, []string{"d", "a", "spare", "spare"}) || !same(d, []string{"a", "b", "c", "spare"}) {
		t.Errorf("R4: a list was modified: %q, %q", other, d)
	}
}

// R4: sorted tokens share memory neither with the list nor with each other.
func TestTokensAreNew(t *testing.T) {
	const text = "bb" + "a" + "ccc" + "~~~~"
	want := []string{"a", "bb", "ccc"}
	for i := range want {
		whole := []byte(text)
		d := names.Sort([][]byte{whole[:2], whole[2:3], whole[3:6], whole[:2]})
		if !same(d, want) {
			t.Fatalf("P2.1: Sort: %q", d)
		}
		scribble(d[i])
		d[i] = []byte(want[i])
		if !same(d, want) || string(whole) != text {
			t.Errorf("R4: token %d shares memory: %q, %q", i, d, whole)
		}
		for _, spare := range d[len(d):cap(d)] {
			scribble(spare)
		}
		if !same(d, want) || string(whole) != text {
			t.Errorf("R4: spare capacity shares memory: %q, %q", d, whole)
		}
	}
}

// R4: a list that is sorted already is copied too, and stays as it is when
// the argument changes afterwards.
func TestNothingIsKept(t *testing.T) {
	l := tokens("a", "b", "c")
	d := names.Sort(l)
	scribble(l[1])
	l[0], l[2] = nil, nil
	if !same(d, []string{"a", "b", "c"}) {
		t.Errorf("R4: sorted tokens change with the list: %q", d)
	}
	again := names.Sort(d)
	again[0] = nil
	if !same(d, []string{"a", "b", "c"}) {
		t.Errorf("R4: two sorted lists share memory: %q", d)
	}
}

// fill overwrites numbers and their spare capacity.
func fill(l []int) {
	l = l[:cap(l)]
	for i := range l {
		l[i] = -9
	}
}

// R4: lists of numbers are new, and the two of one result share no memory.
func TestNumbersAreNew(t *testing.T) {
	a, b := tokens("a", "b"), tokens("b", "c")
	x, y, _ := names.Two(a, b)
	fill(x)
	if !slices.Equal(y, []int{1, 2}) {
		t.Errorf("R4: two lists of numbers share memory: %d", y)
	}
	x, y, _ = names.Two(a, b)
	fill(y)
	if !slices.Equal(x, []int{0, 1}) {
		t.Errorf("R4: two lists of numbers share memory: %d", x)
	}
	d := names.Sort(a)
	first, _ := names.Ids(d, a)
	second, _ := names.Ids(d, a)
	fill(first)
	if !slices.Equal(second, []int{0, 1}) {
		t.Errorf("R4: two lists of numbers share memory: %d", second)
	}
}
