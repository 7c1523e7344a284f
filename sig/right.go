package sig

import (
	"borrowdale/api"
	"borrowdale/decl"
	"borrowdale/kind"
)

// How much a signature has at most.
const (
	maxNamed   = 20 // regions that a function names
	maxParams  = 20
	maxWhere   = 100
	maxLetters = 200 // of a name
)

// isWord is whether a text is a word: what a KData can be called is one, and so are the three that it can't be called.
func isWord(s string) bool {
	return s == "int" || s == "bool" || s == "unit" || kind.Right(api.Type{Kind: api.KData, Name: s})
}

// isRegion is whether a number is one of so many regions.
func isRegion(r, regions int) bool {
	return 1 <= r && r <= regions
}

// mayBe is whether a type may stand in a signature with so many regions.
func mayBe(t api.Type, regions int, l []api.Data) bool {
	if !kind.Right(t) {
		return false
	}
	for _, r := range kind.Regions(t) {
		if !isRegion(r, regions) {
			return false
		}
	}
	for len(t.Args) > 0 {
		t = t.Args[0]
	}
	if t.Kind != api.KData {
		return true
	}
	d, ok := decl.Find(l, t.Name)
	return ok && len(t.Regs) == d.Regions
}
