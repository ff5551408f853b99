// Package tok divides byte strings into tokens and joins them again: see DOC.md, chapter 1.
package tok

import "tatting/api"

const (
	bytesName = "bytes"
	linesName = "lines"
	lineFeed  = 10
)

// Cut returns the tokens of b in order, or EARG if the mode is not valid.
func Cut(mode int, b []byte) ([][]byte, api.Errno) {
	n, e := Count(mode, b)
	if e != api.OK {
		return nil, e
	}
	l := make([][]byte, 0, n)
	for from := 0; from < len(b); {
		to := tokenEnd(mode, b, from)
		l = append(l, copied(b[from:to]))
		from = to
	}
	return l, api.OK
}

// Join returns the concatenation of the tokens.
func Join(l [][]byte) []byte {
	b := make([]byte, 0, total(l))
	for _, t := range l {
		b = append(b, t...)
	}
	return b
}

// Count returns the number of tokens of b, or EARG if the mode is not valid.
func Count(mode int, b []byte) (int, api.Errno) {
	if !valid(mode) {
		return 0, api.EARG
	}
	n := 0
	for from := 0; from < len(b); from = tokenEnd(mode, b, from) {
		n++
	}
	return n, api.OK
}

// Ends returns, for each token, the number of bytes up to its end.
func Ends(l [][]byte) []int {
	ends := make([]int, 0, len(l))
	sum := 0
	for _, t := range l {
		sum += len(t)
		ends = append(ends, sum)
	}
	return ends
}

// Is reports whether t can be a token of the mode.
func Is(mode int, t []byte) bool {
	return valid(mode) && len(t) > 0 && tokenEnd(mode, t, 0) == len(t)
}

// Name returns the name of the mode, or the empty string if it is not valid.
func Name(mode int) string {
	switch mode {
	case api.Bytes:
		return bytesName
	case api.Lines:
		return linesName
	}
	return ""
}

// Mode returns the mode of that name and true, or false if there is none.
func Mode(name string) (int, bool) {
	switch name {
	case bytesName:
		return api.Bytes, true
	case linesName:
		return api.Lines, true
	}
	return 0, false
}

func valid(mode int) bool {
	return mode == api.Bytes || mode == api.Lines
}

// tokenEnd returns where the token that begins at from ends; from must be an
// index of b, so that the end always lies behind it and loops come to an end.
func tokenEnd(mode int, b []byte, from int) int {
	if mode == api.Bytes {
		return from + 1
	}
	for i := from; i < len(b); i++ {
		if b[i] == lineFeed {
			return i + 1
		}
	}
	return len(b)
}

// copied gives each token memory of its own: a piece of one common array
// would be shared with the tokens beside it.
func copied(t []byte) []byte {
	c := make([]byte, len(t))
	copy(c, t)
	return c
}

func total(l [][]byte) int {
	sum := 0
	for _, t := range l {
		sum += len(t)
	}
	return sum
}
