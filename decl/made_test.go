package decl_test

import (
	"reflect"
	"strconv"
	"strings"
	"testing"

	"borrowdale/api"
	"borrowdale/decl"
	"borrowdale/kind"
	"borrowdale/parse"
)

// ty is the type of a text (layer 7).
func ty(s string) api.Type {
	t, e := kind.Parse(s)
	if e != api.OK {
		panic("no type: " + s)
	}
	return t
}

// tys is the types of a text, parted by ";".
func tys(s string) []api.Type {
	var l []api.Type
	for _, x := range strings.Split(s, ";") {
		if x = strings.TrimSpace(x); x != "" {
			l = append(l, ty(x))
		}
	}
	return l
}

// structOf is a struct with fields f0, f1 and so on, of the types of a text.
func structOf(name string, regions int, fields string) api.Data {
	return structWith(name, regions, tys(fields)...)
}

// structWith is a struct with fields f0, f1 and so on, of these types.
func structWith(name string, regions int, types ...api.Type) api.Data {
	p := api.Part{Types: types}
	for i := range types {
		p.Names = append(p.Names, "f"+strconv.Itoa(i))
	}
	return api.Data{Name: name, Regions: regions, Parts: []api.Part{p}}
}

// choiceOf is a choice; each case is a name, and the types of a text behind it.
func choiceOf(name string, regions int, cases ...string) api.Data {
	d := api.Data{Name: name, Choice: true, Regions: regions}
	for _, c := range cases {
		part, rest, _ := strings.Cut(c, " ")
		d.Parts = append(d.Parts, api.Part{Name: part, Types: tys(rest)})
	}
	return d
}

// copying is a declaration that is Copy.
func copying(d api.Data) api.Data {
	d.Copy = true
	return d
}

// placed is declarations of which the first one stands at 100, the next one at 110, and so on.
func placed(l ...api.Data) []api.Data {
	for i := range l {
		l[i].At = 100 + 10*i
	}
	return l
}

// cloneType is a type in new memory, without empty lists.
func cloneType(t api.Type) api.Type {
	t.Regs = append([]int(nil), t.Regs...)
	t.Args = cloneTypes(t.Args)
	return t
}

// cloneTypes is types in new memory.
func cloneTypes(l []api.Type) []api.Type {
	var all []api.Type
	for _, t := range l {
		all = append(all, cloneType(t))
	}
	return all
}

// clone is declarations in new memory, without empty lists.
func clone(l []api.Data) []api.Data {
	var all []api.Data
	for _, d := range l {
		var parts []api.Part
		for _, p := range d.Parts {
			parts = append(parts, api.Part{Name: p.Name, Names: append([]string(nil), p.Names...), Types: cloneTypes(p.Types)})
		}
		d.Parts = parts
		all = append(all, d)
	}
	return all
}

// alike is whether two lists of declarations are the same.
func alike(a, b []api.Data) bool { return reflect.DeepEqual(clone(a), clone(b)) }

// sameTypes is whether two lists of types are the same.
func sameTypes(a, b []api.Type) bool { return reflect.DeepEqual(cloneTypes(a), cloneTypes(b)) }

// sameType is whether two types are the same.
func sameType(a, b api.Type) bool { return reflect.DeepEqual(cloneType(a), cloneType(b)) }

// spoilType writes into all that a type holds.
func spoilType(t *api.Type) {
	t.Name, t.Region = "spoilt", -99
	for i := range t.Regs {
		t.Regs[i] = -99
	}
	for i := range t.Args {
		spoilType(&t.Args[i])
	}
}

// spoil writes into all that declarations hold.
func spoil(l []api.Data) {
	for i := range l {
		l[i].Name = "spoilt"
		for j := range l[i].Parts {
			p := &l[i].Parts[j]
			p.Name = "spoilt"
			for k := range p.Names {
				p.Names[k] = "spoilt"
			}
			for k := range p.Types {
				spoilType(&p.Types[k])
			}
		}
	}
}

// program is the tree of a source.
func program(t *testing.T, s string) api.Node {
	t.Helper()
	n, f := parse.Program(s)
	if f != (api.Fault{}) {
		t.Fatalf("%v in\n%.300s", f, s)
	}
	return n
}

// marked is a source without its @, and where that stood (0 without one).
func marked(s string) (string, int) {
	before, after, ok := strings.Cut(s, "@")
	if !ok {
		return s, 0
	}
	return before + after, len(before)
}

// collected is what a source that is taken declares.
func collected(t *testing.T, s string) []api.Data {
	t.Helper()
	l, f := decl.Collect(program(t, s))
	if f != (api.Fault{}) {
		t.Fatalf("%v in\n%.300s", f, s)
	}
	return l
}

// of is a node.
func of(kind int, text string, n int64, kids ...api.Node) api.Node {
	return api.Node{Kind: kind, Text: text, N: n, Kids: kids}
}

// names is a Names.
func names(l ...string) api.Node {
	n := of(api.Names, "", 0)
	for _, s := range l {
		n.Kids = append(n.Kids, of(api.Name, s, 0))
	}
	return n
}

// numbered is a tree whose nodes stand at from, from + 1 and so on, in order.
func numbered(n api.Node, from int) api.Node {
	next := from
	var number func(n api.Node) api.Node
	number = func(n api.Node) api.Node {
		n.At = next
		next++
		var kids []api.Node
		for _, kid := range n.Kids {
			kids = append(kids, number(kid))
		}
		n.Kids = kids
		return n
	}
	return number(n)
}

// within is a type's tree within so many boxes.
func within(n int, t api.Node) api.Node {
	for range n {
		t = of(api.TBox, "", 0, t)
	}
	return t
}
