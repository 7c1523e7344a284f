package sig

import (
	"strconv"

	"borrowdale/api"
	"borrowdale/kind"
)

// maxListed is how many regions a text lists at most: with more of them it would have more bytes than any call may answer.
const maxListed = 190_000_000

// comma parts what stands in a list.
const comma = ", "

// appendRegion is some text with a region's behind it.
func appendRegion(b []byte, r int) []byte {
	return strconv.AppendInt(append(b, '\''), int64(r), 10)
}

// appendRegions is some text, and behind it the list of so many regions, if there are any.
func appendRegions(b []byte, count int) []byte {
	if count < 1 {
		return b
	}
	b = append(b, '<')
	for r := 1; r <= count; r++ {
		if r > 1 {
			b = append(b, comma...)
		}
		b = appendRegion(b, r)
	}
	return append(b, '>')
}

// appendTypes is some text, and behind it the texts of types.
func appendTypes(b []byte, l []api.Type) []byte {
	for i, t := range l {
		if i > 0 {
			b = append(b, comma...)
		}
		b = append(b, kind.Text(t)...)
	}
	return b
}

// appendWhere is some text, and behind it what is said of regions, if anything is.
func appendWhere(b []byte, l []api.Outlives) []byte {
	for i, w := range l {
		before := comma
		if i == 0 {
			before = " where "
		}
		b = appendRegion(append(b, before...), w.A)
		b = appendRegion(append(b, ": "...), w.B)
	}
	return b
}
