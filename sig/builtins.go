package sig

import (
	"borrowdale/api"
	"borrowdale/kind"
)

// builtin is a function that is built in: its types are told by their texts (layer 7), with T for the type that it is asked for, and '1, '2 for its regions.
type builtin struct {
	name        string
	takes       []string
	gives       string
	types, regs int
}

// builtins is all of them, by their names, rising.
var builtins = [...]builtin{
	{"at", []string{"&'1 Vec[T]", "int"}, "&'1 T", 1, 1},
	{"at_mut", []string{"&'1 mut Vec[T]", "int"}, "&'1 mut T", 1, 1},
	{"box", []string{"T"}, "Box[T]", 1, 0},
	{"len", []string{"&'1 Vec[T]"}, "int", 1, 1},
	{"pop", []string{"&'1 mut Vec[T]"}, "T", 1, 1},
	{"print", []string{"int"}, "unit", 0, 0},
	{"push", []string{"&'1 mut Vec[T]", "T"}, "unit", 1, 1},
	{"replace", []string{"&'1 mut T", "T"}, "T", 1, 1},
	{"swap", []string{"&'1 mut T", "&'2 mut T"}, "unit", 1, 2},
	{"unbox", []string{"Box[T]"}, "T", 1, 0},
	{"vec", nil, "Vec[T]", 1, 0},
}

// find is the built-in of a name.
func find(name string) (builtin, bool) {
	for _, b := range builtins {
		if b.name == name {
			return b, true
		}
	}
	return builtin{}, false
}

// filled is the type of a built-in's text, with t for T, and regs for its regions.
func filled(text string, t api.Type, regs []int) api.Type {
	x, _ := kind.Parse(text)
	return instead(kind.Map(x, numbered(regs)), t)
}

// instead is a built-in's type with t for T, which is the only KData that such a one has.
func instead(x, t api.Type) api.Type {
	if x.Kind == api.KData {
		return kind.With(t, nil)
	}
	for i, held := range x.Args {
		x.Args[i] = instead(held, t)
	}
	return x
}

// numbered is numbers by the regions for which they stand: from 1 on.
func numbered(regs []int) []int {
	return append([]int{0}, regs...)
}

// retold is what stands for a region; other numbers stay.
func retold(r int, by []int) int {
	if isRegion(r, len(by)-1) {
		return by[r]
	}
	return r
}
