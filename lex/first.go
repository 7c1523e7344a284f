package lex

import (
	"strings"

	"borrowdale/api"
)

// gap is the kind of blanks and comments, which are no tokens.
const gap = 0

// most is the greatest Number. Its digits are held against others' as text: no number of them goes round.
const most = "9223372036854775807"

// first is what a text that isn't empty begins with: its kind, how many bytes it has, and what is wrong with it.
func first(s string) (kind, n int, err api.Errno) {
	switch c := s[0]; {
	case c == ' ' || c == '\t' || c == '\n':
		return gap, 1, api.OK
	case strings.HasPrefix(s, "//"):
		return gap, lineComment(s), api.OK
	case strings.HasPrefix(s, "/*"):
		return closedComment(s)
	case isDigit(c):
		return number(s)
	case isLetter(c):
		return Word, word(s), api.OK
	case c == '\'':
		return region(s)
	}
	return sign(s)
}

// lineComment is how long a comment is that ends with its line.
func lineComment(s string) int {
	n := strings.IndexByte(s, '\n')
	if n < 0 {
		return len(s)
	}
	return n
}

// closedComment looks for the end behind both bytes of the beginning: the * of /*/ can't be of both.
func closedComment(s string) (kind, n int, err api.Errno) {
	end := strings.Index(s[2:], "*/")
	if end < 0 {
		return gap, 0, api.ErrOpen
	}
	return gap, 2 + end + 2, api.OK
}

// number ends behind a 0 that is its first digit: what follows is another token.
func number(s string) (kind, n int, err api.Errno) {
	n = 1
	for s[0] != '0' && n < len(s) && isDigit(s[n]) {
		n++
	}
	if n > len(most) || n == len(most) && s[:n] > most {
		return Number, 0, api.ErrBig
	}
	return Number, n, api.OK
}

// word is how long the Word is that a text begins with; 0: it begins with none.
func word(s string) int {
	n := 0
	for n < len(s) && (isLetter(s[n]) || n > 0 && isDigit(s[n])) {
		n++
	}
	return n
}

func region(s string) (kind, n int, err api.Errno) {
	n = word(s[1:])
	if n == 0 {
		return Region, 0, api.ErrToken
	}
	return Region, 1 + n, api.OK
}

// sign takes a Sign of two bytes ahead of one that it begins with.
func sign(s string) (kind, n int, err api.Errno) {
	if len(s) > 1 && twoBytes(s[:2]) {
		return Sign, 2, api.OK
	}
	if strings.IndexByte("(){}[],;:.=<>+-*/%!&", s[0]) >= 0 {
		return Sign, 1, api.OK
	}
	return Sign, 0, api.ErrToken
}

func twoBytes(s string) bool {
	switch s {
	case "::", "->", "=>", "==", "!=", "<=", ">=", "&&", "||":
		return true
	}
	return false
}

func isDigit(c byte) bool {
	return '0' <= c && c <= '9'
}

func isLetter(c byte) bool {
	return c == '_' || 'A' <= c && c <= 'Z' || 'a' <= c && c <= 'z'
}
