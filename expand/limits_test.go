package expand_test

import (
	"fmt"
	"strings"
	"testing"

	"borrowdale/api"
	"borrowdale/expand"
	"borrowdale/tree"
)

// many is a program of functions that call g for as many types as are asked, each of two, with a call of g for the first of these types again at the end of each.
func many(count int) string {
	s := ""
	for i := range count {
		one := strings.Repeat("Box[", i/20) + "int" + strings.Repeat("]", i/20)
		two := strings.Repeat("Vec[", i%20) + "int" + strings.Repeat("]", i%20)
		s += fmt.Sprintf("fn f() { g[%s, %s](); g[int, int]() }\n", one, two)
	}
	return s
}

// P6.1, P6.2: MaxCopies instances, and one more.
func TestMostInstances(t *testing.T) {
	const g = "fn g[A, B](a: A, b: B) {}"
	s := g + many(api.MaxCopies)
	takes(t, "MaxCopies instances", program(t, s))
	if l := expand.Needs(program(t, s)); len(l) != api.MaxCopies || l[0] != "g__ii" || l[1] != "g__iVi" || l[199] != "g__"+strings.Repeat("B", 9)+"i"+strings.Repeat("V", 19)+"i" {
		t.Errorf("%d instances: %v", len(l), l)
	}
	more := s + "fn f() { g[int, int](); @g[bool, bool]() }"
	s, place := marked(t, more)
	refuses(t, "one more", program(t, s), api.Fault{Kind: api.ErrLoop, At: place})
	// All sorts are counted, and those too that others need.
	s, place = marked(t, g+many(api.MaxCopies-1)+"struct P[T] { p: @P[Box[T]] } fn f(p: P[int]) {}")
	refuses(t, "more in an instance", program(t, s), api.Fault{Kind: api.ErrLoop, At: place})
	s, _ = marked(t, g+many(api.MaxCopies-1)+"struct P[T] { p: @Box[P[T]] } fn f(p: P[int]) {}")
	takes(t, "the last one needs itself", program(t, s))
	s, place = marked(t, g+many(api.MaxCopies)+"fn f() { @g(); @[bool, &int]() }")
	refuses(t, "an argument too few, ahead of one instance more", program(t, strings.ReplaceAll(s, "@", "h")), api.Fault{Kind: api.ErrCount, At: place})
	s, place = marked(t, g+many(api.MaxCopies)+"fn f() { g[bool, @&int]() }")
	refuses(t, "an argument that isn't plain, ahead of one instance more", program(t, s), api.Fault{Kind: api.ErrPlain, At: place})
}

// P6.1: there is no end to what is needed.
func TestEndless(t *testing.T) {
	for _, r := range []string{
		"struct P[T] { p: Box[@P[Box[T]]] } fn f(p: P[int]) {}",
		"struct P[T] { p: Vec[@P[P[T]]] } fn f(p: P[int]) {}",
		"fn f[T]() { @f[Vec[Vec[T]]]() } fn g() { f[int]() }",
		"struct A[T] { b: B[Box[T]] } struct B[T] { a: @A[T] } fn f(a: A[int]) {}",
		"struct A[T] { b: @B[Box[T]] } struct B[T] { a: A[T] } struct C {} fn f(b: B[int]) {}",
		"fn f[T]() { f[T](); @C::A[Vec[T]](f[Vec[T]]()) } choice C[T] { A } fn h() { f[int]() }",
		// The names become too long, long before there are too many.
		"fn f[T]() { f[@M[T, T]]() } struct M[A, B] {} fn g() { f[int]() }",
		"struct M[A, B] { a: Box[@M[M[A, B], M[B, A]]] } fn f(m: M[int, bool]) {}",
	} {
		s, place := marked(t, r)
		refuses(t, r, program(t, s), api.Fault{Kind: api.ErrLoop, At: place})
	}
}

// P6.1, P6.2: a mangled name of MaxSource bytes, and one more.
func TestLongestNames(t *testing.T) {
	for more := range 2 {
		for about, c := range map[string]struct{ item, use api.Node }{
			"a long template's": {template(strings.Repeat("P", api.MaxSource-3+more), []string{"T"}, named("T")), at(tint, 5)},
			"a long argument's": {template("P", []string{"T"}, named("T")), named(strings.Repeat("a", api.MaxSource-8+more))},
			"one within boxes":  {template("P", []string{"T"}, named("T")), list(api.TVec, boxes(2, named(strings.Repeat("a", api.MaxSource-11+more))))},
			"two arguments'":    {template("P", []string{"T", "U"}, named("T")), named(strings.Repeat("a", 32763-1))},
		} {
			args := []api.Node{c.use}
			if about == "two arguments'" {
				args = append(args, named(strings.Repeat("b", 32763-2+more)))
			}
			n := list(api.Program, c.item, holder("S", at(named(c.item.Text, args...), 9)), holder("S", at(named(c.item.Text, args...), 10)))
			if more > 0 {
				refuses(t, about, n, api.Fault{Kind: api.ErrLoop, At: 9})
				continue
			}
			takes(t, about, n)
			if l := expand.Needs(n); len(l) != 1 || len(l[0]) != api.MaxSource || l[0] != expand.Mangle(c.item.Text, args) {
				t.Errorf("%s: %d instances, not one of MaxSource bytes", about, len(l))
			}
		}
	}
	call := of(api.Call, strings.Repeat("f", api.MaxSource-2), 0, list(api.TArgs, tint))
	f := fn(call.Text, api.Node{})
	f.Kids[0] = names("T")
	refuses(t, "a function's", list(api.Program, f, fn("g", at(call, 8))), api.Fault{Kind: api.ErrLoop, At: 8})
	call.Text += "f"
	takes(t, "a name that is no template's, however long", list(api.Program, f, fn("g", call)))
}

// P6.1: names of arguments that would come to far more than can be kept.
func TestHugeNames(t *testing.T) {
	var templates []string
	var args []api.Node
	for i := range 2000 {
		templates = append(templates, fmt.Sprint("T", i))
		args = append(args, named(strings.Repeat("a", 60000)))
	}
	n := list(api.Program, template("P", templates), holder("S", at(named("P", args...), 3)))
	refuses(t, "names of 120 megabytes", n, api.Fault{Kind: api.ErrLoop, At: 3})
}

// P6.1: what comes is as deep as may be, and deeper.
func TestDeepest(t *testing.T) {
	p := template("P", []string{"T"}, boxes(30, named("T")))
	use := func(held int, n api.Node) api.Node { return holder("S", named("P", boxes(held, n))) }
	takes(t, "the deepest", list(api.Program, p, use(26, at(tint, 77))))
	refuses(t, "deeper", list(api.Program, p, use(27, at(tint, 77))), api.Fault{Kind: api.ErrDeep, At: 77})
	takes(t, "the deepest name", list(api.Program, p, use(25, at(named("S"), 77))))
	s := of(api.TName, "S", 0, at(names(), 78))
	refuses(t, "a deeper name", list(api.Program, p, use(26, at(s, 77))), api.Fault{Kind: api.ErrDeep, At: 78})
	refuses(t, "much deeper", list(api.Program, p, use(0, shelves(40, 200, tint))), api.Fault{Kind: api.ErrDeep, At: 227})
	// What lies too deep in an argument that stands nowhere does no harm.
	q := template("Q", []string{"T"}, named("P", boxes(50, named("T"))))
	takes(t, "a deep argument", list(api.Program, template("P", []string{"T"}), q, holder("S", named("Q", boxes(50, tint)))))
}

// shelves is a type within as many boxes, which stand, from the outermost on, in a place and those behind it.
func shelves(count, place int, n api.Node) api.Node {
	for i := range count {
		n = at(list(api.TBox, n), place+count-1-i)
	}
	return n
}

// P6.1: the first node that is too deep, in the order of what comes, and behind all other errors.
func TestDeepFirst(t *testing.T) {
	p := template("P", []string{"T"}, named("T"), boxes(30, named("T")))
	q := template("Q", []string{"T"}, boxes(40, named("T")))
	one := holder("S", at(named("P", shelves(30, 200, tint)), 5))
	other := holder("Z", at(named("Q", shelves(35, 300, tbool)), 6))
	refuses(t, "the first instance's", list(api.Program, q, p, one, other), api.Fault{Kind: api.ErrDeep, At: 227})
	refuses(t, "the other one's", list(api.Program, q, p, other, one), api.Fault{Kind: api.ErrDeep, At: 317})
	refuses(t, "another error", list(api.Program, q, p, one, other, holder("Y", at(named("P"), 70))), api.Fault{Kind: api.ErrCount, At: 70})
	late := template("R", []string{"T"}, named("T"), at(named("T", tint), 80))
	refuses(t, "another error in an instance", list(api.Program, q, p, late, one, other, holder("Y", named("R", tint))), api.Fault{Kind: api.ErrTemplate, At: 80})
}

// fields is as many fields of type int.
func fields(count int) []api.Node {
	var l []api.Node
	for range count {
		l = append(l, tint)
	}
	return l
}

// P6.1: what comes has as many nodes as may be, and more.
func TestMostNodes(t *testing.T) {
	p := template("P", []string{"T"}, append(fields(2998), at(tint, 40), at(named("T"), 50))...)
	use := func(first api.Node) api.Node {
		l := append(fields(988), first)
		return holder("S", append(l, named("P", tint), named("P", tbool), named("P", at(tunit, 60)))...)
	}
	most := list(api.Program, p, use(tint))
	if n := tree.Size(takes(t, "the most", most)); n != api.MaxNodes {
		t.Errorf("the most: %d nodes", n)
	}
	more := list(api.Program, p, use(boxes(1, tint)))
	refuses(t, "one more", more, api.Fault{Kind: api.ErrMany, At: 60})
	more = list(api.Program, p, use(boxes(3, tint)))
	refuses(t, "three more", more, api.Fault{Kind: api.ErrMany, At: 40})
	// Which items come behind makes no difference, but for what else is wrong with them.
	more.Kids = append(more.Kids, holder("Z", at(named("P", list(api.TVec, tint)), 70)))
	refuses(t, "an instance more", more, api.Fault{Kind: api.ErrMany, At: 0})
	deep := template("Q", []string{"T"}, boxes(40, named("T")))
	more.Kids = append(more.Kids, deep, holder("Z", named("Q", shelves(35, 300, tbool))))
	refuses(t, "too deep", more, api.Fault{Kind: api.ErrDeep, At: 317})
	more.Kids = append(more.Kids, holder("Z", at(named("Q"), 71)))
	refuses(t, "another error", more, api.Fault{Kind: api.ErrCount, At: 71})
}

// P6.1: an instance that has more nodes than may be, behind others.
func TestGreatInstance(t *testing.T) {
	var l []api.Node
	for range 6000 {
		l = append(l, named("T"))
	}
	use := holder("S", named("P", shelves(2, 201, at(tint, 203))))
	n := list(api.Program, template("P", []string{"T"}, l...), use)
	// Ahead of the fields lie 10 nodes, and each field has 4.
	refuses(t, "a great instance", n, api.Fault{Kind: api.ErrMany, At: 202})
	n.Kids = append(n.Kids, template("Q", []string{"T"}, boxes(40, named("T"))), holder("Z", named("Q", shelves(35, 300, tbool))))
	refuses(t, "one that is too deep behind it", n, api.Fault{Kind: api.ErrDeep, At: 317})
}

// P6.1, rule 7: what stands in something in very many ways is gone through once.
func TestOnce(t *testing.T) {
	var twice, deeper strings.Builder
	for i := range 60 {
		fmt.Fprintf(&twice, "struct S%d[T] { a: S%d[T], b: Box[S%d[T]], c: Vec[S%d[Vec[int]]] }\n", i, i+1, i+1, i+1)
		fmt.Fprintf(&deeper, "fn f%d[T]() { f%d[M[T, T]](); f%d[M[T, T]]() }\n", i, i+1, i+1)
	}
	n := program(t, twice.String()+"struct S60[T] { x: T } fn f(s: S0[int]) {}")
	takes(t, "each of 60 holds the next one twice", n)
	if l := expand.Needs(n); len(l) != 1+2*60 || l[0] != "S0__i" || l[1] != "S1__i" || l[2] != "S1__Vi" || l[119] != "S60__i" {
		t.Errorf("%d instances: %.5000v", len(l), l)
	}
	s := deeper.String() + "fn f60[T]() {} struct M[A, B] {} fn g() { f0[int]() }"
	refuses(t, "names become twice as long 60 times", program(t, s), api.Fault{Kind: api.ErrLoop, At: strings.Index(s, "M[T, T]](); f14")})
}

// P6.1, rule 7: great arguments that stand in very many places are gone through once.
func TestGreatArguments(t *testing.T) {
	uses := strings.Repeat("q: Q[T], t: T, ", 2400)
	great := "@P[" + strings.Repeat("Box[", 54) + "T" + strings.Repeat("]", 55)
	s, place := marked(t, "struct Q[T] {} struct P[T] { "+uses+"p: "+great+" } fn f(p: P[int]) {}")
	refuses(t, "great arguments", program(t, s), api.Fault{Kind: api.ErrLoop, At: place})
}
