package decl_test

import (
	"reflect"
	"strconv"
	"strings"
	"testing"

	"borrowdale/api"
	"borrowdale/decl"
	"borrowdale/sample"
)

// structOf is a struct with fields f0, f1 and so on, of the types of a text.
func structOf(name string, regions int, fields string) api.Data {
	return structWith(name, regions, sample.Types(fields)...)
}

// structWith is a struct with fields f0, f1 and so on, of these types.
func structWith(name string, regions int, types ...api.Type) api.Data {
	p := api.Part{Types: types}
	for i := range types {
		p.Names = append(p.Names, "f"+strconv.Itoa(i))
	}
	return api.Data{Name: name, Regions: regions, Parts: []api.Part{p}}
}

// choiceOf is a choice; each case is a name, and the types of a text behind it.
func choiceOf(name string, regions int, cases ...string) api.Data {
	d := api.Data{Name: name, Choice: true, Regions: regions}
	for _, c := range cases {
		part, rest, _ := strings.Cut(c, " ")
		d.Parts = append(d.Parts, api.Part{Name: part, Types: sample.Types(rest)})
	}
	return d
}

// copying is a declaration that is Copy.
func copying(d api.Data) api.Data {
	d.Copy = true
	return d
}

// placed is declarations of which the first one stands at 100, the next one at 110, and so on.
func placed(l ...api.Data) []api.Data {
	for i := range l {
		l[i].At = 100 + 10*i
	}
	return l
}

// clone is declarations in new memory, without empty lists.
func clone(l []api.Data) []api.Data {
	var all []api.Data
	for _, d := range l {
		var parts []api.Part
		for _, p := range d.Parts {
			parts = append(parts, api.Part{Name: p.Name, Names: append([]string(nil), p.Names...), Types: sample.CloneTypes(p.Types)})
		}
		d.Parts = parts
		all = append(all, d)
	}
	return all
}

// alike is whether two lists of declarations are the same.
func alike(a, b []api.Data) bool { return reflect.DeepEqual(clone(a), clone(b)) }

// sameType is whether two types are the same.
func sameType(a, b api.Type) bool { return reflect.DeepEqual(sample.CloneType(a), sample.CloneType(b)) }

// spoil writes into all that declarations hold.
func spoil(l []api.Data) {
	for i := range l {
		l[i].Name = "spoilt"
		for j := range l[i].Parts {
			p := &l[i].Parts[j]
			p.Name = "spoilt"
			for k := range p.Names {
				p.Names[k] = "spoilt"
			}
			for k := range p.Types {
				sample.SpoilType(&p.Types[k])
			}
		}
	}
}

// collected is what a source that is taken declares.
func collected(t *testing.T, s string) []api.Data {
	t.Helper()
	l, f := decl.Collect(sample.Program(s))
	if f != (api.Fault{}) {
		t.Fatalf("%v in\n%.300s", f, s)
	}
	return l
}

// of is a node.
func of(kind int, text string, n int64, kids ...api.Node) api.Node {
	return api.Node{Kind: kind, Text: text, N: n, Kids: kids}
}

// names is a Names.
func names(l ...string) api.Node {
	n := of(api.Names, "", 0)
	for _, s := range l {
		n.Kids = append(n.Kids, of(api.Name, s, 0))
	}
	return n
}

// numbered is a tree whose nodes stand at from, from + 1 and so on, in order.
func numbered(n api.Node, from int) api.Node {
	next := from
	var number func(n api.Node) api.Node
	number = func(n api.Node) api.Node {
		n.At = next
		next++
		var kids []api.Node
		for _, kid := range n.Kids {
			kids = append(kids, number(kid))
		}
		n.Kids = kids
		return n
	}
	return number(n)
}

// within is a type's tree within so many boxes.
func within(n int, t api.Node) api.Node {
	for range n {
		t = of(api.TBox, "", 0, t)
	}
	return t
}
