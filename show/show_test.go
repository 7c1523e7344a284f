package show_test

import (
	"strings"
	"testing"

	"borrowdale/api"
	"borrowdale/show"
	"borrowdale/tree"
)

// P5.1, P5.2: the text of each kind of node, in one line.
func TestTexts(t *testing.T) {
	for _, c := range []struct {
		face
		rows []row
	}{{program, programRows()}, {aType, typeRows()}, {expr, exprRows()}, {pattern, patternRows()}} {
		seen := map[int]bool{}
		for _, r := range c.rows {
			c.holds(t, r.n, r.one)
			for n := range tree.All(r.n) {
				seen[n.Kind] = true
			}
		}
		for class, kinds := range map[string][2]int{"Program": {api.Program, api.CaseDecl}, "Type": {api.TInt, api.TVec}, "Expr": {api.Let, api.Assign}, "Pattern": {api.PAny, api.PCase}} {
			for kind := kinds[0]; class == c.name && kind <= kinds[1]; kind++ {
				if !seen[kind] && (kind <= api.Eval || kind >= api.Int) {
					t.Errorf("%s: no Kind %d", c.name, kind)
				}
			}
		}
	}
}

// P5.1, P5.2: types within programs, wherever one may stand.
func TestTypesWithinPrograms(t *testing.T) {
	one := func(n api.Node) api.Node { return list(api.Program, n) }
	for _, r := range typeRows() {
		for _, c := range []struct {
			n             api.Node
			before, after string
		}{
			{of(api.Struct, "S", 0, names(), names(), of(api.FieldDecl, "f", 0, r.n)), "struct S {\n    f: ", ",\n}\n"},
			{of(api.Choice, "C", 0, names(), names(), of(api.CaseDecl, "A", 0, tint, r.n)), "choice C {\n    A(int, ", "),\n}\n"},
			{of(api.Fn, "f", 0, names(), names(), list(api.Args, of(api.Arg, "x", 1, r.n)), api.Node{}, list(api.Wheres), none), "fn f(mut x: ", ") {}\n"},
			{of(api.Fn, "f", 0, names(), names(), list(api.Args), r.n, list(api.Wheres, of(api.Where, "'a", 0, name("'b"))), none), "fn f() -> ", " where 'a: 'b {}\n"},
			{function(block(let("x", 1, r.n, num(1)))), "fn f() {\n    let mut x: ", " = 1;\n}\n"},
			{function(ends(withTypes(call("f"), r.n))), "fn f() {\n    f[", "]()\n}\n"},
			{function(ends(withTypes(build("S"), tint, r.n))), "fn f() {\n    S[int, ", "] {}\n}\n"},
			{function(ends(withTypes(caseOf("A::B"), r.n, tint))), "fn f() {\n    A::B[", ", int]\n}\n"},
		} {
			program.holds(t, one(c.n), c.before+r.one+c.after)
		}
	}
}

// P5.1, P5.2: patterns within programs.
func TestPatternsWithinPrograms(t *testing.T) {
	for _, r := range patternRows() {
		n := function(ends(match(a, arm(r.n, b), arm(of(api.PCase, "A::B", 0, pany, r.n), c))))
		program.holds(t, list(api.Program, n), "fn f() {\n    match a {\n        "+r.one+" => b,\n        A::B(_, "+r.one+") => c,\n    }\n}\n")
	}
}

// P5.1, P5.2: expressions within programs, in lines, wherever one may stand in which nothing is asked.
func TestExprsWithinPrograms(t *testing.T) {
	for _, r := range exprRows() {
		for _, c := range []struct {
			n             api.Node
			before, after string
			steps         int
		}{
			{block(let("x", 0, api.Node{}, r.n)), "let x = ", ";", 1},
			{ends(call("f", a, r.n)), "f(a, ", ")", 1},
			{ends(caseOf("A::B", r.n, a)), "A::B(", ", a)", 1},
			{ends(build("S", set("f", r.n))), "S { f: ", " }", 1},
			{block(eval(leave(api.Return, "", r.n))), "return ", ";", 1},
			{ends(leave(api.Break, "'l", r.n)), "break 'l ", "", 1},
			{ends(assign(a, r.n)), "a = ", "", 1},
			{ends(match(a, arm(pany, r.n))), "match a {\n        _ => ", ",\n    }", 2},
			{ends(choose(a, block(let("x", 0, api.Node{}, r.n)))), "if a {\n        let x = ", ";\n    }", 2},
			{ends(loop("'l", ends(match(a, arm(px, block(let("x", 1, tint, r.n))))))), "'l: loop {\n        match a {\n            x => {\n                let mut x: int = ", ";\n            },\n        }\n    }", 4},
		} {
			program.holds(t, list(api.Program, function(c.n)), "fn f() {\n    "+c.before+further(r.inLines(), c.steps)+c.after+"\n}\n")
		}
	}
}

// P5.1, P5.2: at the greatest depth, and one further.
func TestDeepest(t *testing.T) {
	for _, around := range []func(api.Node) api.Node{
		func(n api.Node) api.Node { return unary("-", n) }, deref2, func(n api.Node) api.Node { return borrow(0, n) }, func(n api.Node) api.Node { return field(n, "f") }, func(n api.Node) api.Node { return call("f", n) },
		func(n api.Node) api.Node { return binary("-", a, n) }, func(n api.Node) api.Node { return binary("-", n, a) }, func(n api.Node) api.Node { return binary("==", n, a) }, func(n api.Node) api.Node { return assign(n, a) }, func(n api.Node) api.Node { return assign(a, n) },
		func(n api.Node) api.Node { return ends(n) }, func(n api.Node) api.Node { return choose(n, none) }, func(n api.Node) api.Node { return while("'l", n, none) }, func(n api.Node) api.Node { return match(n) }, func(n api.Node) api.Node { return leave(api.Return, "", n) },
		func(n api.Node) api.Node { return field(unary("-", n), "f") }, func(n api.Node) api.Node { return choose(a, none, choose(n, none)) }, func(n api.Node) api.Node { return match(a, arm(pany, n)) }, func(n api.Node) api.Node { return block(eval(n)) }, func(n api.Node) api.Node { return ends(field(n, "f")) },
	} {
		n := build("S")
		for tree.Depth(around(n)) <= api.MaxDepth {
			n = around(n)
		}
		s, e := show.Expr(n)
		if e != api.OK {
			t.Fatal(e)
		}
		expr.returns(t, n, s)
		for tree.Depth(n) <= api.MaxDepth {
			n = around(n)
		}
		expr.refuses(t, "too deep", n, api.ErrShape)
	}
	lines, n := "", none
	for range 28 {
		n = block(eval(n))
	}
	n = list(api.Program, function(n))
	for i := range 28 {
		lines += strings.Repeat("    ", i+1) + "{\n"
	}
	lines = strings.TrimSuffix(lines, "\n") + "};\n"
	for i := 27; i >= 0; i-- {
		lines += strings.Repeat("    ", i) + "};\n"
	}
	program.holds(t, n, "fn f() {\n"+strings.TrimSuffix(lines, ";\n")+"\n")
}

func deref2(n api.Node) api.Node { return deref(deref(n)) }

// long is a name of so many bytes.
func long(size int) string { return strings.Repeat("n", size) }

// P5.1: a text of 65536 bytes is shown, and one of 65537 isn't, whatever it ends with.
func TestLongTexts(t *testing.T) {
	type shape struct {
		face
		n func(s string) api.Node
	}
	shapes := []shape{
		{expr, name}, {pattern, func(s string) api.Node { return of(api.PName, s, 1) }}, {pattern, func(s string) api.Node { return of(api.PCase, "A::"+s, 0, pany) }}, {aType, func(s string) api.Node { return tname(s, noRegions) }}, {aType, func(s string) api.Node { return tname("T", names("'a", "'"+s)) }},
		{program, func(s string) api.Node { return list(api.Program, of(api.Struct, s, 0, names(), names())) }}, {program, func(s string) api.Node { return list(api.Program, function(ends(name(s))), function(none)) }},
	}
	for _, r := range exprRows() {
		if len(shapes) < 400 {
			shapes = append(shapes, shape{expr, func(s string) api.Node { return binary("+", name(s), r.n) }}, shape{program, func(s string) api.Node { return list(api.Program, function(ends(name(s))), function(ends(r.n))) }})
		}
	}
	for _, r := range typeRows() {
		shapes = append(shapes, shape{aType, func(s string) api.Node { return tname(s, names("'a"), r.n) }})
	}
	for _, r := range patternRows() {
		shapes = append(shapes, shape{pattern, func(s string) api.Node { return of(api.PCase, s+"::A", 0, r.n) }})
	}
	for _, x := range shapes {
		s, e := x.show(x.n("n"))
		rest := len(s) - 1
		if s, e = x.show(x.n(long(api.MaxSource - rest))); len(s) != api.MaxSource || e != api.OK {
			t.Fatalf("%s: %d, %d bytes", x.name, e, len(s))
		}
		for _, more := range []int{1, 2, 7, rest + 1, api.MaxSource} {
			x.refuses(t, "too long", x.n(long(api.MaxSource-rest+more)), api.ErrMany)
		}
	}
}

// wide is a node with more and more Kids of two, or of one node.
func wide(n api.Node, size int, one, two api.Node) api.Node {
	for left := size - tree.Size(n); left > 0; {
		kid := two
		if left%2 == 1 {
			kid = one
		}
		n.Kids = append(n.Kids, kid)
		left -= tree.Size(kid)
	}
	return n
}

// P5.1, P5.2: a node with 20000 nodes is shown, one with 20001 isn't; one whose text would be too long isn't either.
func TestWideNodes(t *testing.T) {
	t1 := tname("T", noRegions)
	for _, c := range []struct {
		face
		n        api.Node
		one, two api.Node
		want     api.Errno
	}{
		{aType, tname("T", noRegions), tint, t1, api.ErrShape},
		{expr, call("f"), a, unary("-", a), api.ErrShape},
		{pattern, of(api.PCase, "A::B", 0), pany, pany, api.ErrShape},
	} {
		n := wide(c.n, api.MaxNodes, c.one, c.two)
		s, e := c.show(n)
		if e != api.OK || tree.Size(n) != api.MaxNodes {
			t.Fatalf("%s: %d, %d nodes", c.name, e, tree.Size(n))
		}
		c.returns(t, n, s)
		c.refuses(t, "too many", wide(n, api.MaxNodes+1, c.one, c.two), c.want)
	}
	args := list(api.Program, function(ends(wide(call("f"), api.MaxNodes-8, a, unary("-", a)))))
	if s, e := show.Program(args); e != api.OK || tree.Size(args) != api.MaxNodes {
		t.Errorf("Program: %d, %d nodes", e, tree.Size(args))
	} else {
		program.returns(t, args, s)
	}
	program.refuses(t, "too many", list(api.Program, function(none), args.Kids[0]), api.ErrMany)
	var evals []api.Node
	for range 9900 {
		evals = append(evals, eval(num(1)))
	}
	program.refuses(t, "too long", list(api.Program, function(block(evals...))), api.ErrMany)
	expr.refuses(t, "too long", wide(call("f"), 9000, name("longerone"), name("longerone")), api.ErrMany)
}

// P5.1: what is none of the class, or isn't right, isn't shown.
func TestWrongNodes(t *testing.T) {
	classes := map[string][]api.Node{"Program": {list(api.Program)}, "Type": {tint, tname("T", noRegions)}, "Expr": {a, nothing, none, choose(a, none)}, "Pattern": {pany, px}, "": {
		{}, of(api.Struct, "S", 0, names(), names()), of(api.Choice, "C", 0, names(), names()), function(none), names(), of(api.Arg, "x", 0, tint), list(api.Args), of(api.Where, "'a", 0, name("'b")), list(api.Wheres), of(api.FieldDecl, "f", 0, tint), of(api.CaseDecl, "A", 0),
		let("x", 0, api.Node{}, api.Node{}), eval(a), targs(), set("f", a), arm(pany, a), list(-1), list(13), list(27), list(63), list(75),
	}}
	for _, f := range faces {
		for class, l := range classes {
			for _, n := range l {
				if class != f.name {
					f.refuses(t, "another class", n, api.ErrShape)
				} else if _, e := f.show(n); e != api.OK {
					t.Errorf("%s: %d", f.name, e)
				}
			}
		}
	}
	for _, n := range []api.Node{list(api.Block), list(api.If, a, none), list(api.If, a, none, a), list(api.Call), of(api.Call, "f", 0, a), name("'a"), name(""), name("_"), name("if"), unary("+", a), unary("", a), binary("=", a, b), list(api.Binary, a, b), assign(a, api.Node{}), num(-1), of(api.Bool, "", 2), borrow(2, a), borrow(-1, a), field(a, "1"), caseOf("A"), caseOf("A:B"), deref(tint), leave(api.Break, "l"), list(api.Break), match(a, b), loop("", a), ends(eval(a)), ends(let("x", -1, api.Node{}, api.Node{}), a), of(api.Nothing, "x", 0), of(api.Name, "x", -1)} {
		expr.refuses(t, "not right", n, api.ErrShape)
		expr.refuses(t, "not right within", call("f", a, n), api.ErrShape)
		program.refuses(t, "not right within", list(api.Program, function(ends(n))), api.ErrShape)
	}
	for _, n := range []api.Node{ref("a", 0, tint), ref("", 2, tint), list(api.TBox), list(api.TVec, tint, tint), list(api.TName, names()), tname("T"), tname("T", tint), tname("T", names("a")), tname("int", noRegions), of(api.TInt, "int", 0), list(api.TBox, a)} {
		aType.refuses(t, "not right", n, api.ErrShape)
	}
	for _, n := range []api.Node{of(api.PName, "x", -1), of(api.PName, "_", 0), pint(-longest - 1), of(api.PBool, "", -1), of(api.PCase, "A", 0), of(api.PCase, "A::B", 0, a), list(api.PAny, pany)} {
		pattern.refuses(t, "not right", n, api.ErrShape)
	}
	for _, n := range []api.Node{list(api.Program, a), list(api.Program, api.Node{}), of(api.Program, "p", 0), list(api.Program, function(a)), list(api.Program, of(api.Struct, "S", 2, names(), names())), list(api.Program, of(api.Struct, "S", 0, names(), names("a"))), list(api.Program, of(api.Struct, "S", 0, names("'a"), names())), list(api.Program, of(api.Struct, "S", 0, names(), names(), of(api.CaseDecl, "A", 0)))} {
		program.refuses(t, "not right", n, api.ErrShape)
	}
}

// P5.1: of a program the error is the one that layer 3 tells: too deep, too many, then the shape; and ahead of that of the text.
func TestErrorsOfPrograms(t *testing.T) {
	deep := a
	for range api.MaxDepth {
		deep = unary("-", deep)
	}
	many := wide(call("f"), api.MaxNodes, a, a)
	wrong := name("if")
	longer := name(long(api.MaxSource))
	for _, c := range []struct {
		l    []api.Node
		want api.Errno
	}{
		{[]api.Node{deep}, api.ErrDeep}, {[]api.Node{many}, api.ErrMany}, {[]api.Node{wrong}, api.ErrShape}, {[]api.Node{longer}, api.ErrMany}, {[]api.Node{wrong, many, deep}, api.ErrDeep}, {[]api.Node{wrong, many}, api.ErrMany}, {[]api.Node{longer, deep}, api.ErrDeep}, {[]api.Node{longer, wrong}, api.ErrShape},
	} {
		n := list(api.Program, function(ends(call("f", c.l...))))
		program.refuses(t, "wrong", n, c.want)
		if want := tree.Right(n).Kind; want != api.OK && want != c.want {
			t.Errorf("layer 3: %d", want)
		}
	}
	expr.refuses(t, "longer and not right", call("f", longer, wrong), api.ErrShape)
	expr.refuses(t, "longer", call("f", longer), api.ErrMany)
}

// P5.1: no function changes the node that it is given, nor what lies behind its lists.
func TestNothingIsChanged(t *testing.T) {
	rows := append(append(programRows(), exprRows()...), append(typeRows(), patternRows()...)...)
	for _, r := range rows {
		n := roomy(r.n)
		before := tree.Copy(n)
		for _, f := range faces {
			f.show(n)
		}
		if !tree.Same(n, before) || !untouched(n) {
			t.Fatalf("%s is changed", r.one)
		}
	}
}

// roomy is a tree whose lists have room behind them, with a node there that nobody may touch.
func roomy(n api.Node) api.Node {
	kids := make([]api.Node, 0, len(n.Kids)+1)
	for _, kid := range n.Kids {
		kids = append(kids, roomy(kid))
	}
	kids = append(kids, list(99))
	n.Kids = kids[:len(kids)-1]
	return n
}

func untouched(n api.Node) bool {
	for _, kid := range n.Kids {
		if !untouched(kid) {
			return false
		}
	}
	return n.Kids[:len(n.Kids)+1][len(n.Kids)].Kind == 99
}
