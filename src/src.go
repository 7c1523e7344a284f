// Package src is layer 1: a source's bytes, lines and places: see shared/doc/01-src.md.
package src

import (
	"strconv"
	"strings"

	"borrowdale/api"
)

// Clean is what is wrong with a source's bytes.
func Clean(s string) api.Fault {
	for i := range min(len(s), api.MaxSource) {
		if !sourceByte(s[i]) {
			return api.Fault{Kind: api.ErrByte, At: i}
		}
	}
	if len(s) > api.MaxSource {
		return api.Fault{Kind: api.ErrByte, At: api.MaxSource}
	}
	return api.Fault{}
}

func sourceByte(c byte) bool {
	return c == '\t' || c == '\n' || ' ' <= c && c <= '~'
}

// Lines is a source's lines.
func Lines(s string) []string {
	return strings.Split(s, "\n")
}

// Where is the line and the column of a byte.
func Where(s string, at int) (line, col int) {
	at = within(s, at)
	line = strings.Count(s[:at], "\n") + 1
	return line, at - lineStart(s, at) + 1
}

// At is the byte of a line and a column.
func At(s string, line, col int) (int, api.Errno) {
	start, ok := nthLine(s, line)
	if !ok || col < 1 {
		return 0, api.ErrPlace
	}
	// The column just behind a line counts: the byte A stands there, or the end.
	// Taking 1 off col, not adding to it, keeps the greatest int from going round.
	if col-1 > lineEnd(s, start)-start {
		return 0, api.ErrPlace
	}
	return start + col - 1, api.OK
}

// Excerpt is a byte's line, and a mark below it.
func Excerpt(s string, at int) string {
	at = within(s, at)
	start := lineStart(s, at)
	return s[start:lineEnd(s, at)] + "\n" + indent(s[start:at]) + "^\n"
}

// Message is a fault, told.
func Message(s string, f api.Fault) string {
	line, col := Where(s, f.At)
	place := "line " + strconv.Itoa(line) + ", column " + strconv.Itoa(col)
	return place + ": " + says(f.Kind) + "\n" + Excerpt(s, f.At)
}

// within is the place in s that is closest to at; the one behind the last byte counts.
func within(s string, at int) int {
	return min(max(at, 0), len(s))
}

// lineStart is where the line begins in which at stands.
func lineStart(s string, at int) int {
	return strings.LastIndexByte(s[:at], '\n') + 1
}

// lineEnd is where the line ends in which at stands: at its byte A, or at the end of s.
func lineEnd(s string, at int) int {
	n := strings.IndexByte(s[at:], '\n')
	if n < 0 {
		return len(s)
	}
	return at + n
}

// nthLine is where the line of a number begins, if there is one.
func nthLine(s string, line int) (int, bool) {
	if line < 1 {
		return 0, false
	}
	start := 0
	for ; line > 1; line-- {
		end := lineEnd(s, start)
		if end == len(s) {
			return 0, false
		}
		start = end + 1
	}
	return start, true
}

// indent is as wide as what stands ahead of a mark, however wide a byte 9 is shown.
func indent(ahead string) string {
	wide := []byte(ahead)
	for i, c := range wide {
		if c != '\t' {
			wide[i] = ' '
		}
	}
	return string(wide)
}
