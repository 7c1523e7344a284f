package expand_test

import (
	"strings"
	"testing"

	"borrowdale/api"
	"borrowdale/expand"
	"borrowdale/parse"
	"borrowdale/tree"
)

func of(kind int, text string, n int64, kids ...api.Node) api.Node {
	return api.Node{Kind: kind, Text: text, N: n, Kids: kids}
}

func list(kind int, kids ...api.Node) api.Node { return of(kind, "", 0, kids...) }

// names is a Names (or a TName's) of regions or names.
func names(l ...string) api.Node {
	n := list(api.Names)
	for _, s := range l {
		n.Kids = append(n.Kids, of(api.Name, s, 0))
	}
	return n
}

// named is a TName with arguments, and without regions.
func named(s string, args ...api.Node) api.Node {
	return of(api.TName, s, 0, append([]api.Node{names()}, args...)...)
}

// boxes is a type within as many boxes.
func boxes(count int, n api.Node) api.Node {
	for range count {
		n = list(api.TBox, n)
	}
	return n
}

var tint, tbool, tunit = list(api.TInt), list(api.TBool), list(api.TUnit)

// at is a node that stands elsewhere.
func at(n api.Node, at int) api.Node {
	n.At = at
	return n
}

// template is a struct that is a template, with fields of these types.
func template(name string, templates []string, types ...api.Node) api.Node {
	n := of(api.Struct, name, 0, names(templates...), names())
	for _, t := range types {
		n.Kids = append(n.Kids, of(api.FieldDecl, "f", 0, t))
	}
	return n
}

// holder is a struct with fields of these types.
func holder(name string, types ...api.Node) api.Node { return template(name, nil, types...) }

// fn is a function whose body is an expression.
func fn(name string, e api.Node) api.Node {
	return of(api.Fn, name, 0, names(), names(), list(api.Args), api.Node{}, list(api.Wheres), list(api.Block, e))
}

// program is what a source says.
func program(t *testing.T, s string) api.Node {
	t.Helper()
	n, f := parse.Program(s)
	if f != (api.Fault{}) {
		t.Fatalf("%v in\n%.300s", f, s)
	}
	return n
}

// marked is a source without its @, and where that stood.
func marked(t *testing.T, s string) (string, int) {
	t.Helper()
	before, after, ok := strings.Cut(s, "@")
	if !ok {
		t.Fatalf("no @ in\n%s", s)
	}
	return before + after, len(before)
}

// alike is whether two trees are the same, and stand in the same places.
func alike(a, b api.Node) bool {
	if a.Kind != b.Kind || a.Text != b.Text || a.N != b.N || a.At != b.At || len(a.Kids) != len(b.Kids) {
		return false
	}
	for i, kid := range a.Kids {
		if !alike(kid, b.Kids[i]) {
			return false
		}
	}
	return true
}

// isZero is whether a node is the zero one.
func isZero(n api.Node) bool {
	return n.Kind == 0 && n.Text == "" && n.N == 0 && n.At == 0 && len(n.Kids) == 0
}

// refuses tells whether a program is refused with a fault, and nothing beside.
func refuses(t *testing.T, about string, n api.Node, want api.Fault) {
	t.Helper()
	got, f := expand.Expand(n)
	if f != want {
		t.Errorf("%.300s: %v, not %v", about, f, want)
	}
	if !isZero(got) {
		t.Errorf("%.300s: a node beside a fault", about)
	}
	if l := expand.Needs(n); len(l) > 0 {
		t.Errorf("%.300s: %d instances are needed beside a fault", about, len(l))
	}
}

// takes is what becomes of a program that is taken.
func takes(t *testing.T, about string, n api.Node) api.Node {
	t.Helper()
	got, f := expand.Expand(n)
	if f != (api.Fault{}) {
		t.Fatalf("%.300s: %v", about, f)
	}
	if again, f := expand.Expand(got); f != (api.Fault{}) || !alike(again, got) {
		t.Errorf("%.300s: %v, expanded again it is another one", about, f)
	}
	if f := tree.Right(got); f != (api.Fault{}) {
		t.Errorf("%.300s: it isn't right: %v", about, f)
	}
	return got
}

// own tells whether each list of Kids has memory of its own, that no other one has which was told ahead.
func own(n api.Node, seen map[*api.Node]bool) bool {
	for i := range n.Kids {
		if seen[&n.Kids[i]] {
			return false
		}
		seen[&n.Kids[i]] = true
		if !own(n.Kids[i], seen) {
			return false
		}
	}
	return true
}
