package tok_test

import (
	"bytes"
	"math"
	"slices"
	"strings"
	"testing"

	"tatting/api"
	"tatting/tok"
)

var modes = []int{api.Bytes, api.Lines}

var wrongModes = []int{-1, 2, 3, 256, 1 << 32, math.MinInt, math.MaxInt}

// tokens makes a list of tokens from texts.
func tokens(texts ...string) [][]byte {
	l := make([][]byte, 0, len(texts))
	for _, s := range texts {
		l = append(l, []byte(s))
	}
	return l
}

func same(l [][]byte, want []string) bool {
	return slices.EqualFunc(l, want, func(t []byte, s string) bool { return string(t) == s })
}

// texts returns all texts of up to length bytes from the alphabet.
func texts(alphabet string, length int) []string {
	all := []string{""}
	last := all
	for range length {
		var next []string
		for _, s := range last {
			for i := range len(alphabet) {
				next = append(next, s+alphabet[i:i+1])
			}
		}
		all = append(all, next...)
		last = next
	}
	return all
}

// pieces cuts by the words of the chapter, with the means of package strings.
func pieces(mode int, s string) []string {
	if s == "" {
		return nil
	}
	if mode == api.Lines {
		l := strings.SplitAfter(s, "\n")
		if l[len(l)-1] == "" {
			l = l[:len(l)-1]
		}
		return l
	}
	var l []string
	for i := range len(s) {
		l = append(l, s[i:i+1])
	}
	return l
}

// scribble overwrites a list and its spare capacity.
func scribble(b []byte) {
	b = b[:cap(b)]
	for i := range b {
		b[i] = '#'
	}
}

// P1.1
func TestCutAndCount(t *testing.T) {
	for _, c := range []struct {
		mode int
		text string
		want []string
	}{
		{api.Bytes, "", nil},
		{api.Bytes, "a", []string{"a"}},
		{api.Bytes, "\n", []string{"\n"}},
		{api.Bytes, "ab\n\nc", []string{"a", "b", "\n", "\n", "c"}},
		{api.Bytes, "\xc3\xa4\x00", []string{"\xc3", "\xa4", "\x00"}},
		{api.Lines, "", nil},
		{api.Lines, "x", []string{"x"}},
		{api.Lines, "x\n", []string{"x\n"}},
		{api.Lines, "\n", []string{"\n"}},
		{api.Lines, "\n\n\n", []string{"\n", "\n", "\n"}},
		{api.Lines, "\nx", []string{"\n", "x"}},
		{api.Lines, "a\n\nb", []string{"a\n", "\n", "b"}},
		{api.Lines, "a\nb\n", []string{"a\n", "b\n"}},
		{api.Lines, "a\nb", []string{"a\n", "b"}},
		{api.Lines, "a\r\nb\rc", []string{"a\r\n", "b\rc"}},
		{api.Lines, "\x00\xff\n\xff", []string{"\x00\xff\n", "\xff"}},
	} {
		l, e := tok.Cut(c.mode, []byte(c.text))
		if e != api.OK || !same(l, c.want) {
			t.Errorf("P1.1: Cut(%d, %q): %q, %d", c.mode, c.text, l, e)
		}
		n, e := tok.Count(c.mode, []byte(c.text))
		if e != api.OK || n != len(c.want) {
			t.Errorf("P1.1: Count(%d, %q): %d, %d", c.mode, c.text, n, e)
		}
	}
}

// P1.1: a nil list is an empty one (R4).
func TestNoBytes(t *testing.T) {
	for _, mode := range modes {
		if l, e := tok.Cut(mode, nil); e != api.OK || len(l) != 0 {
			t.Errorf("P1.1: Cut(%d, nil): %q, %d", mode, l, e)
		}
		if n, e := tok.Count(mode, nil); e != api.OK || n != 0 {
			t.Errorf("P1.1: Count(%d, nil): %d, %d", mode, n, e)
		}
		if tok.Is(mode, nil) {
			t.Errorf("P1.1: Is(%d, nil)", mode)
		}
	}
}

// P1.1: all that a mode that is not valid is answered (R2, R6).
func TestWrongMode(t *testing.T) {
	for _, mode := range wrongModes {
		for _, s := range []string{"", "a", "\n", "a\nb"} {
			if l, e := tok.Cut(mode, []byte(s)); e != api.EARG || len(l) != 0 {
				t.Errorf("P1.1: Cut(%d, %q): %q, %d", mode, s, l, e)
			}
			if n, e := tok.Count(mode, []byte(s)); e != api.EARG || n != 0 {
				t.Errorf("P1.1: Count(%d, %q): %d, %d", mode, s, n, e)
			}
			if tok.Is(mode, []byte(s)) {
				t.Errorf("P1.1: Is(%d, %q)", mode, s)
			}
		}
		if got := tok.Name(mode); got != "" {
			t.Errorf("P1.1: Name(%d): %q", mode, got)
		}
	}
}

// P1.1
func TestJoin(t *testing.T) {
	for _, c := range []struct {
		list [][]byte
		want string
	}{
		{nil, ""},
		{[][]byte{}, ""},
		{tokens("a"), "a"},
		{tokens("ab", "c\n", "\n", "d"), "abc\n\nd"},
		{tokens("b", "a", "b"), "bab"},
		{[][]byte{nil, []byte("x"), {}, []byte("\x00\xff"), nil}, "x\x00\xff"},
	} {
		if got := tok.Join(c.list); string(got) != c.want {
			t.Errorf("P1.1: Join(%q): %q", c.list, got)
		}
	}
}

// P1.1
func TestEnds(t *testing.T) {
	for _, c := range []struct {
		list [][]byte
		want []int
	}{
		{nil, nil},
		{[][]byte{}, nil},
		{tokens("a"), []int{1}},
		{tokens("a\n", "\n", "bcd"), []int{2, 3, 6}},
		{[][]byte{nil, []byte("xy"), {}, []byte("z")}, []int{0, 2, 2, 3}},
	} {
		if got := tok.Ends(c.list); !slices.Equal(got, c.want) {
			t.Errorf("P1.1: Ends(%q): %d", c.list, got)
		}
	}
}

// P1.1
func TestIs(t *testing.T) {
	for _, c := range []struct {
		text         string
		bytes, lines bool
	}{
		{"", false, false},
		{"a", true, true},
		{"\n", true, true},
		{"\x00", true, true},
		{"\r", true, true},
		{"ab", false, true},
		{"a\n", false, true},
		{"a\r\n", false, true},
		{"\na", false, false},
		{"\n\n", false, false},
		{"a\nb", false, false},
		{"a\nb\n", false, false},
	} {
		if got := tok.Is(api.Bytes, []byte(c.text)); got != c.bytes {
			t.Errorf("P1.1: Is(Bytes, %q): %v", c.text, got)
		}
		if got := tok.Is(api.Lines, []byte(c.text)); got != c.lines {
			t.Errorf("P1.1: Is(Lines, %q): %v", c.text, got)
		}
	}
}

// P1.1
func TestNameAndMode(t *testing.T) {
	if got := tok.Name(api.Bytes); got != "bytes" {
		t.Errorf("P1.1: Name(Bytes): %q", got)
	}
	if got := tok.Name(api.Lines); got != "lines" {
		t.Errorf("P1.1: Name(Lines): %q", got)
	}
	for _, mode := range modes {
		if got, ok := tok.Mode(tok.Name(mode)); got != mode || !ok {
			t.Errorf("P1.1: Mode(%q): %d, %v", tok.Name(mode), got, ok)
		}
	}
	for _, name := range []string{"", "byte", "bytess", "Bytes", "LINES", "line", " lines", "lines ", "lines\n", "bytes\x00", "0", "1"} {
		if got, ok := tok.Mode(name); got != 0 || ok {
			t.Errorf("P1.1: Mode(%q): %d, %v", name, got, ok)
		}
	}
}

// P1.1 and P1.2, for all short texts.
func TestShortTexts(t *testing.T) {
	for _, s := range texts("a\n\xff", 7) {
		for _, mode := range modes {
			want := pieces(mode, s)
			l, e := tok.Cut(mode, []byte(s))
			n, f := tok.Count(mode, []byte(s))
			if e != api.OK || f != api.OK || !same(l, want) || n != len(want) {
				t.Fatalf("P1.1: Cut(%d, %q): %q, %d; Count: %d, %d", mode, s, l, e, n, f)
			}
			if got := tok.Join(l); string(got) != s {
				t.Fatalf("P1.2: Join(Cut(%d, %q)): %q", mode, s, got)
			}
			if tok.Is(mode, []byte(s)) != (len(want) == 1) {
				t.Fatalf("P1.1: Is(%d, %q)", mode, s)
			}
			for i, x := range l {
				if !tok.Is(mode, x) {
					t.Fatalf("P1.2: Cut(%d, %q): element %d is no token", mode, s, i)
				}
				if mode == api.Lines && i < len(l)-1 && x[len(x)-1] != 10 {
					t.Fatalf("P1.2: Cut(Lines, %q): element %d has no line feed at its end", s, i)
				}
			}
		}
	}
}

// P1.1: each byte but the line feed is an ordinary one in a line.
func TestEveryByte(t *testing.T) {
	for k := range 256 {
		b := []byte{byte(k), byte(k)}
		lines := 1
		if k == 10 {
			lines = 2
		}
		if n, e := tok.Count(api.Lines, b); n != lines || e != api.OK {
			t.Errorf("P1.1: Count(Lines, %q): %d, %d", b, n, e)
		}
		if tok.Is(api.Lines, b) != (lines == 1) || !tok.Is(api.Bytes, b[:1]) {
			t.Errorf("P1.1: Is for %q", b)
		}
	}
}

// P1.1 and P1.2 at the limit of a list, and above it.
func TestManyTokens(t *testing.T) {
	for _, n := range []int{api.MaxTokens, api.MaxTokens + 1} {
		b := bytes.Repeat([]byte{10}, n)
		for _, mode := range modes {
			l, e := tok.Cut(mode, b)
			if e != api.OK || len(l) != n || !bytes.Equal(tok.Join(l), b) {
				t.Errorf("P1.2: mode %d: %d tokens of %d, %d", mode, len(l), n, e)
			}
			if ends := tok.Ends(l); len(ends) != n || ends[n-1] != n {
				t.Errorf("P1.1: mode %d: %d ends of %d", mode, len(ends), n)
			}
		}
	}
}

// R4: no call modifies an argument or its spare capacity.
func TestArgumentsStay(t *testing.T) {
	whole := []byte("a\n\nbc~~~~")
	kept := bytes.Clone(whole)
	b := whole[:5]
	for _, mode := range []int{api.Bytes, api.Lines, 2} {
		tok.Cut(mode, b)
		tok.Count(mode, b)
		tok.Is(mode, b)
	}
	if !bytes.Equal(whole, kept) {
		t.Errorf("R4: a text was modified: %q", whole)
	}
	list := [][]byte{whole[0:2], whole[2:3], whole[3:5], []byte("spare")}
	tok.Join(list[:3])
	tok.Ends(list[:3])
	if !bytes.Equal(whole, kept) || !same(list, []string{"a\n", "\n", "bc", "spare"}) {
		t.Errorf("R4: a list was modified: %q, %q", whole, list)
	}
}

// R4: tokens share memory neither with the text nor with each other.
func TestTokensAreNew(t *testing.T) {
	for _, s := range []string{"a", "ab\n", "a\nb\nc", "ab\ncd\n\nef"} {
		for _, mode := range modes {
			want := pieces(mode, s)
			whole := []byte(s + "~~~~")
			for i := range want {
				l, _ := tok.Cut(mode, whole[:len(s)])
				if !same(l, want) {
					t.Fatalf("P1.1: Cut(%d, %q): %q", mode, s, l)
				}
				scribble(l[i])
				l[i] = []byte(want[i])
				if !same(l, want) || string(whole) != s+"~~~~" {
					t.Errorf("R4: Cut(%d, %q): token %d shares memory: %q, %q", mode, s, i, l, whole)
				}
			}
		}
	}
}

// R4: a result stays as it is when the text changes afterwards.
func TestNothingIsKept(t *testing.T) {
	b := []byte("ab\nc")
	l, _ := tok.Cut(api.Lines, b)
	scribble(b)
	if !same(l, []string{"ab\n", "c"}) {
		t.Errorf("R4: tokens change with the text: %q", l)
	}
	list := tokens("ab\n", "c")
	joined := tok.Join(list)
	scribble(list[0])
	scribble(list[1])
	if string(joined) != "ab\nc" {
		t.Errorf("R4: the joined text changes with the tokens: %q", joined)
	}
}

// R4: a joined text and a list of ends are new, even for a single token.
func TestJoinedTextIsNew(t *testing.T) {
	whole := []byte("abc~~~~")
	list := [][]byte{whole[:3]}
	first, second := tok.Join(list), tok.Join(list)
	scribble(first)
	if string(whole) != "abc~~~~" || string(second) != "abc" {
		t.Errorf("R4: a joined text shares memory: %q, %q", whole, second)
	}
	ends, others := tok.Ends(list), tok.Ends(list)
	ends[0] = 99
	if !slices.Equal(others, []int{3}) {
		t.Errorf("R4: two lists of ends share memory: %d", others)
	}
}
