package kind

import (
	"strconv"
	"strings"

	"borrowdale/api"
)

// spelt is some text with a type's behind it.
func spelt(s []byte, t api.Type) []byte {
	switch t.Kind {
	case api.KInt:
		return append(s, "int"...)
	case api.KBool:
		return append(s, "bool"...)
	case api.KUnit:
		return append(s, "unit"...)
	case api.KRef:
		return speltHeld(speltRef(s, t), t)
	case api.KBox:
		return append(speltHeld(append(s, "Box["...), t), ']')
	case api.KVec:
		return append(speltHeld(append(s, "Vec["...), t), ']')
	case api.KData:
		return speltRegs(append(s, t.Name...), t.Regs)
	}
	return s
}

// speltHeld is some text, and behind it the text of what a type holds.
func speltHeld(s []byte, t api.Type) []byte {
	for _, a := range t.Args {
		s = spelt(s, a)
	}
	return s
}

// speltRef is some text, and behind it a reference's, up to what it holds.
func speltRef(s []byte, t api.Type) []byte {
	s = append(s, '&')
	if t.Region != 0 {
		s = append(speltRegion(s, t.Region), ' ')
	}
	if t.Unique {
		s = append(s, "mut "...)
	}
	return s
}

// speltRegs is some text, and behind it the regions of data.
func speltRegs(s []byte, regs []int) []byte {
	if len(regs) == 0 {
		return s
	}
	for i, r := range regs {
		between := ", "
		if i == 0 {
			between = "<"
		}
		s = speltRegion(append(s, between...), r)
	}
	return append(s, '>')
}

// speltRegion is some text with a region's behind it.
func speltRegion(s []byte, r int) []byte {
	return strconv.AppendInt(append(s, '\''), int64(r), 10)
}

// read is the type with whose text a text begins, and what is behind it; it lies so deep. Numbers may still have noughts ahead, and names be wrong.
func read(s string, deep int) (api.Type, string, bool) {
	if deep > api.MaxDepth {
		return api.Type{}, "", false
	}
	if rest, ok := strings.CutPrefix(s, "&"); ok {
		return readRef(rest, deep)
	}
	if rest, ok := strings.CutPrefix(s, "Box["); ok {
		return readIn(api.KBox, rest, deep)
	}
	if rest, ok := strings.CutPrefix(s, "Vec["); ok {
		return readIn(api.KVec, rest, deep)
	}
	name, rest := readName(s)
	switch name {
	case "int":
		return api.Type{Kind: api.KInt}, rest, true
	case "bool":
		return api.Type{Kind: api.KBool}, rest, true
	case "unit":
		return api.Type{Kind: api.KUnit}, rest, true
	}
	regs, rest, ok := readRegs(rest)
	return api.Type{Kind: api.KData, Name: name, Regs: regs}, rest, ok
}

// readRef is the reference whose text stands here, but for the &.
func readRef(s string, deep int) (api.Type, string, bool) {
	t := api.Type{Kind: api.KRef}
	if r, rest, ok := readRegion(s); ok {
		t.Region = r
		s, ok = strings.CutPrefix(rest, " ")
		if !ok {
			return api.Type{}, "", false
		}
	}
	s, t.Unique = strings.CutPrefix(s, "mut ")
	held, rest, ok := read(s, deep+1)
	t.Args = []api.Type{held}
	return t, rest, ok
}

// readIn is a box or a vector of the type whose text stands here.
func readIn(kind int, s string, deep int) (api.Type, string, bool) {
	held, rest, ok := read(s, deep+1)
	if !ok {
		return api.Type{}, "", false
	}
	rest, ok = strings.CutPrefix(rest, "]")
	return api.Type{Kind: kind, Args: []api.Type{held}}, rest, ok
}

// readName is the letters with which a text begins, and what is behind them.
func readName(s string) (string, string) {
	for i, r := range s {
		if !isLetter(r) {
			return s[:i], s[i:]
		}
	}
	return s, ""
}

// readRegs is the regions with which a text begins, if there is a < , and what is behind them.
func readRegs(s string) ([]int, string, bool) {
	rest, more := strings.CutPrefix(s, "<")
	if !more {
		return nil, s, true
	}
	var regs []int
	for more {
		r, behind, ok := readRegion(rest)
		if !ok {
			return nil, "", false
		}
		regs = append(regs, r)
		rest, more = strings.CutPrefix(behind, ", ")
	}
	rest, ok := strings.CutPrefix(rest, ">")
	return regs, rest, ok
}

// readRegion is the region with which a text begins, and what is behind it.
func readRegion(s string) (int, string, bool) {
	rest, ok := strings.CutPrefix(s, "'")
	if !ok {
		return 0, "", false
	}
	digits := 0
	for digits < len(rest) && isDigit(rune(rest[digits])) {
		digits++
	}
	r, err := strconv.Atoi(rest[:digits])
	return r, rest[digits:], err == nil
}
