// Package sample makes what the tests of several layers need: types, trees and declarations of texts, which they know to be right. Where a text isn't right, it panics: that is a fault of the test.
package sample

import (
	"slices"
	"strings"

	"borrowdale/api"
	"borrowdale/decl"
	"borrowdale/kind"
	"borrowdale/parse"
)

// Type is the type of a text (layer 7).
func Type(s string) api.Type {
	t, e := kind.Parse(s)
	if e != api.OK {
		panic("no type: " + s)
	}
	return t
}

// Types is the types of a text, parted by ";".
func Types(s string) []api.Type {
	var l []api.Type
	for _, x := range strings.Split(s, ";") {
		if x = strings.TrimSpace(x); x != "" {
			l = append(l, Type(x))
		}
	}
	return l
}

// Within is a type within so many boxes.
func Within(n int, t api.Type) api.Type {
	for range n {
		t = api.Type{Kind: api.KBox, Args: []api.Type{t}}
	}
	return t
}

// Program is the tree of a source.
func Program(s string) api.Node {
	n, f := parse.Program(s)
	if f.Kind != api.OK {
		panic("no program: " + s)
	}
	return n
}

// Declared is what a source declares.
func Declared(s string) []api.Data {
	l, f := decl.Collect(Program(s))
	if f.Kind != api.OK {
		panic("not declared: " + s)
	}
	return l
}

// Marked is a source without its @, and where that stood (0 without one).
func Marked(s string) (string, int) {
	before, after, ok := strings.Cut(s, "@")
	if !ok {
		return s, 0
	}
	return before + after, len(before)
}

// CloneType is a type in new memory, without empty lists.
func CloneType(t api.Type) api.Type {
	t.Regs = append([]int(nil), t.Regs...)
	t.Args = CloneTypes(t.Args)
	return t
}

// CloneTypes is types in new memory.
func CloneTypes(l []api.Type) []api.Type {
	var all []api.Type
	for _, t := range l {
		all = append(all, CloneType(t))
	}
	return all
}

// SameTypes is whether two lists of types are the same.
func SameTypes(a, b []api.Type) bool { return slices.EqualFunc(a, b, kind.Same) }

// SpoilType writes into all that a type holds.
func SpoilType(t *api.Type) {
	t.Name, t.Region, t.Kind = "spoilt", -99, 99
	for i := range t.Regs {
		t.Regs[i] = -99
	}
	for i := range t.Args {
		SpoilType(&t.Args[i])
	}
}

// Endless is types that lie in themselves.
func Endless() []api.Type {
	one := make([]api.Type, 1)
	one[0] = api.Type{Kind: api.KRef, Region: 1, Args: one}
	two := make([]api.Type, 2)
	two[0] = api.Type{Kind: api.KBox, Args: two}
	two[1] = api.Type{Kind: api.KRef, Args: []api.Type{two[0]}}
	return []api.Type{one[0], two[0], two[1]}
}

// Doubled is a type so deep that each of them holds the next one twice; it ends in last.
func Doubled(deep int, last api.Type) api.Type {
	t := last
	for range deep - 1 {
		t = api.Type{Kind: api.KBox, Args: []api.Type{t, t}}
	}
	return t
}
