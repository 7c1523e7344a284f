package expand_test

import (
	"slices"
	"strconv"
	"strings"
	"testing"

	"borrowdale/api"
	"borrowdale/expand"
	"borrowdale/parse"
	"borrowdale/show"
	"borrowdale/tree"
)

// P6.1, P6.2, P6.5: what becomes of sources, and what they need.
func TestTaken(t *testing.T) {
	for _, r := range takenRows() {
		n := program(t, r.source)
		got := takes(t, r.source, n)
		if !tree.Same(got, program(t, r.want)) {
			s, _ := show.Program(got)
			t.Errorf("%s\nbecomes\n%s", r.source, s)
		}
		if l := expand.Needs(n); !slices.Equal(l, strings.Fields(r.needs)) {
			t.Errorf("%s\nneeds %v", r.source, l)
		}
		if l := expand.Needs(got); len(l) > 0 {
			t.Errorf("%s\nexpanded needs %v", r.source, l)
		}
	}
}

// P6.5: what has neither templates nor arguments stays as it is.
func TestStays(t *testing.T) {
	for _, r := range takenRows() {
		n := takes(t, r.source, program(t, r.source))
		if got := takes(t, r.source, n); !alike(got, n) {
			t.Errorf("%s doesn't stay", r.source)
		}
	}
	n := at(program(t, "struct S<'a> { x: &'a int } fn f(x: &mut Vec[S]) -> int { let mut y = 1; y }"), 7)
	n.Kids[1].Kids[5].Kids[0].N = 5
	n.Kids[1].Kids[5].Kids[1].N = 2
	if got := takes(t, "numbers and places", n); !alike(got, n) {
		t.Errorf("numbers and places don't stay")
	}
}

// P6.1, P6.2: each error, at its node; the first one, where there are several.
func TestFaults(t *testing.T) {
	seen := map[api.Errno]bool{}
	for _, r := range faultRows() {
		s, place := marked(t, r.source)
		refuses(t, r.source, program(t, s), api.Fault{Kind: r.kind, At: place})
		seen[r.kind] = true
	}
	if len(seen) != 4 {
		t.Errorf("%d errors, not all of them", len(seen))
	}
}

// told is a tree as a text: of each node its Kind, its Text, its N, where it stands, and its Kids.
func told(n api.Node) string {
	s := strconv.Itoa(n.Kind) + n.Text
	if n.N != 0 {
		s += "#" + strconv.FormatInt(n.N, 10)
	}
	s += "@" + strconv.Itoa(n.At)
	var l []string
	for _, kid := range n.Kids {
		l = append(l, told(kid))
	}
	if len(l) > 0 {
		s += "(" + strings.Join(l, " ") + ")"
	}
	return s
}

// P6.1: where what is made stands: what comes of an argument where that stood in the use that needed the instance first.
func TestPlaces(t *testing.T) {
	for _, c := range []struct{ source, want string }{
		{"struct P[T] { a: T } fn f(p: P[int]) {}", "1@0(4f@21(5@0 5@0 8@25(7p@26(23P__i@29(5@0))) 0@0 10@0 59@37(0@0)) 2P__i@0(5@8 5@0 11a@14(20@31)))"},
		{"fn f[T]() { T::A } fn g() { f[ Vec[S]](vec[S]()); f[Vec[S]]() }", "1@0(4g@19(5@0 5@0 8@23 0@0 10@0 59@26(31@28(48f__V1S@28(49@29 48vec@39(49@42(23S@43(5@0))))) 48f__V1S@50(49@51))) 4f__V1S@0(5@4 5@0 8@7 0@0 10@0 59@10(52T::A@12(49@0))))"},
		{"fn f[T]() { vec[T]() } fn g() { f[ Box[S]](); f[Box[S]]() }", "1@0(4g@23(5@0 5@0 8@27 0@0 10@0 59@30(31@32(48f__B1S@32(49@33)) 48f__B1S@46(49@47))) 4f__B1S@0(5@4 5@0 8@7 0@0 10@0 59@10(48vec@12(49@15(25@35(23S@39(5@0)))))))"},
	} {
		if got := told(takes(t, c.source, program(t, c.source))); got != c.want {
			t.Errorf("%s becomes\n%s\nnot\n%s", c.source, got, c.want)
		}
	}
}

// P6.1, P6.2: of a program that isn't right no node comes, and no instances.
func TestWrongPrograms(t *testing.T) {
	p := template("P", []string{"T"}, named("T"))
	fine := list(api.Program, p, holder("S", named("P", tint)))
	takes(t, "a right one", fine)
	for about, n := range map[string]api.Node{
		"a zero node":              {},
		"an item":                  p,
		"a type":                   named("P", tint),
		"an item that is none":     list(api.Program, p, holder("S", named("P", tint)), at(tint, 9)),
		"an item without Kids":     list(api.Program, p, of(api.Struct, "S", 0)),
		"a template without Names": list(api.Program, of(api.Struct, "P", 0, list(api.Names)), holder("S", named("P", tint))),
		"a TName without Kids":     list(api.Program, p, holder("S", of(api.TName, "P", 0))),
		"a TName's Kid, a Name":    list(api.Program, p, holder("S", of(api.TName, "P", 0, of(api.Name, "'a", 0)))),
		"a Box without a Kid":      list(api.Program, p, holder("S", named("P", list(api.TBox)))),
		"a Box with two":           list(api.Program, p, holder("S", named("P", list(api.TBox, tint, tbool)))),
		"an int with a Kid":        list(api.Program, p, holder("S", named("P", list(api.TInt, tint)))),
		"a Case without a ::":      list(api.Program, p, fn("f", of(api.Case, "P", 0, list(api.TArgs, tint)))),
		"a Call without TArgs":     list(api.Program, p, fn("f", of(api.Call, "f", 0))),
		"a Build without TArgs":    list(api.Program, p, fn("f", of(api.Build, "P", 0))),
		"a name that is none":      list(api.Program, p, holder("S", named("P", named("1")))),
		"a keyword for a name":     list(api.Program, template("int", []string{"T"})),
		"too deep":                 list(api.Program, holder("S", boxes(57, tint))),
		"a Kind that is none":      list(api.Program, p, holder("S", named("P", list(999)))),
		"a Kind below all":         list(api.Program, p, holder("S", named("P", list(-1)))),
	} {
		f := tree.Right(n)
		if f == (api.Fault{}) {
			t.Errorf("%s: it is right", about)
		}
		refuses(t, about, n, f)
	}
}

// P6.1, P6.2: no argument is written into, and what is answered shares no memory with it, nor within itself.
func TestMemory(t *testing.T) {
	for _, r := range takenRows() {
		n := program(t, r.source)
		before := tree.Copy(n)
		got := takes(t, r.source, n)
		seen := map[*api.Node]bool{}
		if !own(n, seen) || !own(got, seen) {
			t.Errorf("%s: memory is shared", r.source)
		}
		expand.Needs(n)
		if !alike(n, before) {
			t.Errorf("%s: it is written into", r.source)
		}
	}
}

// P6.1: what is written out by show is expanded to what a source of it says.
func TestSources(t *testing.T) {
	const s = "struct Queue[T] { front: Vec[T], back: Vec[T] } fn queue[T]() -> Queue[T] { Queue[T] { front: vec[T](), back: vec[T]() } } fn queue_take[T](q: &mut Queue[T]) -> Opt[T] { if len(&q.front) == 0 { Opt::No[T] } else { Opt::One[T](pop(&mut q.front)) } } choice Opt[T] { No, One(T) } fn main() -> int { let mut q = queue[int](); match queue_take[int](&mut q) { Opt::One(n) => n, Opt::No => 0 } }"
	const want = `fn main() -> int {
    let mut q = queue__i();
    match queue_take__i(&mut q) {
        Opt::One(n) => n,
        Opt::No => 0,
    }
}

fn queue__i() -> Queue__i {
    Queue__i { front: vec[int](), back: vec[int]() }
}

fn queue_take__i(q: &mut Queue__i) -> Opt__i {
    if len(&q.front) == 0 {
        Opt__i::No
    } else {
        Opt__i::One(pop(&mut q.front))
    }
}

struct Queue__i {
    front: Vec[int],
    back: Vec[int],
}

choice Opt__i {
    No,
    One(int),
}
`
	got, e := show.Program(takes(t, s, program(t, s)))
	if e != api.OK || got != want {
		t.Errorf("%d\n%s", e, got)
	}
	if n, f := parse.Program(got); f != (api.Fault{}) || len(expand.Needs(n)) > 0 {
		t.Errorf("%v", f)
	}
}
