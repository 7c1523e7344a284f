package show_test

import (
	"math"

	"borrowdale/api"
)

// row is a node, and what it is shown as: in one line, and in lines, if these are others.
type row struct {
	n     api.Node
	one   string
	lines string
}

// inLines is a row's text in lines.
func (r row) inLines() string {
	if r.lines != "" {
		return r.lines
	}
	return r.one
}

var (
	tint        = list(api.TInt)
	a, b, c     = name("a"), name("b"), name("c")
	none        = block()
	pany        = list(api.PAny)
	px          = of(api.PName, "x", 0)
	nothing     = list(api.Nothing)
	continues   = leave(api.Continue, "")
	breaks      = leave(api.Break, "")
	returns     = leave(api.Return, "")
	operators   = []string{"||", "&&", "==", "!=", "<", "<=", ">", ">=", "+", "-", "*", "/", "%"}
	closedOnes  = []api.Node{choose(a, none), choose(a, none, none), while("", a, none), loop("", none), match(a), none}
	closedShown = []string{"if a {}", "if a {} else {}", "while a {}", "loop {}", "match a {}", "{}"}
	cutOnes     = []api.Node{build("S"), leave(api.Break, "", a), leave(api.Break, "'l", a), leave(api.Return, "", a)}
	cutShown    = []string{"S {}", "break a", "break 'l a", "return a"}
	bareAround  = []func(api.Node) api.Node{func(n api.Node) api.Node { return choose(n, none) }, func(n api.Node) api.Node { return while("", n, none) }, func(n api.Node) api.Node { return match(n) }}
	bareWords   = []string{"if ", "while ", "match "}
	longest     = int64(math.MaxInt64)
	twoRegions  = names("'a", "'b")
	noRegions   = names()
	withTypes   = func(n api.Node, l ...api.Node) api.Node { n.Kids = with(targs(l...), n.Kids[1:]); return n }
	pint        = func(n int64) api.Node { return of(api.PInt, "", n) }
)

func typeRows() []row {
	t := tname("T", noRegions)
	return []row{
		{n: tint, one: "int"}, {n: list(api.TBool), one: "bool"}, {n: list(api.TUnit), one: "unit"},
		{n: ref("", 0, tint), one: "&int"}, {n: ref("", 1, tint), one: "&mut int"}, {n: ref("'a", 0, tint), one: "&'a int"}, {n: ref("'a", 1, tint), one: "&'a mut int"},
		{n: ref("", 0, ref("", 0, tint)), one: "&&int"}, {n: ref("", 0, ref("", 1, tint)), one: "&&mut int"}, {n: ref("", 1, ref("", 0, tint)), one: "&mut &int"},
		{n: ref("", 0, ref("'a", 0, tint)), one: "&&'a int"}, {n: ref("'a", 0, ref("'b", 1, tint)), one: "&'a &'b mut int"}, {n: ref("'a", 1, ref("", 0, ref("", 0, t))), one: "&'a mut &&T"},
		{n: list(api.TBox, tint), one: "Box[int]"}, {n: list(api.TVec, list(api.TBox, ref("'_", 1, t))), one: "Vec[Box[&'_ mut T]]"}, {n: ref("", 1, list(api.TVec, t)), one: "&mut Vec[T]"},
		{n: t, one: "T"}, {n: tname("T_1", names("'a")), one: "T_1<'a>"}, {n: tname("T", twoRegions), one: "T<'a, 'b>"}, {n: tname("T", noRegions, tint), one: "T[int]"},
		{n: tname("T", noRegions, tint, list(api.TBool), t), one: "T[int, bool, T]"}, {n: tname("T", twoRegions, tname("U", names("'c"), tint), ref("'a", 0, tint)), one: "T[U[int]<'c>, &'a int]<'a, 'b>"},
	}
}

func patternRows() []row {
	return []row{
		{n: pany, one: "_"}, {n: px, one: "x"}, {n: of(api.PName, "x", 1), one: "mut x"}, {n: of(api.PName, "_x", 12), one: "_x"}, {n: of(api.PName, "x", 13), one: "mut x"}, {n: of(api.PName, "x", longest), one: "mut x"},
		{n: pint(0), one: "0"}, {n: pint(7), one: "7"}, {n: pint(-7), one: "-7"}, {n: pint(longest), one: "9223372036854775807"}, {n: pint(-longest), one: "-9223372036854775807"},
		{n: of(api.PBool, "", 0), one: "false"}, {n: of(api.PBool, "", 1), one: "true"},
		{n: of(api.PCase, "A::B", 0), one: "A::B"}, {n: of(api.PCase, "A::B", 0, pany), one: "A::B(_)"},
		{n: of(api.PCase, "A::B", 0, of(api.PName, "x", 3), of(api.PCase, "C::D", 0, pint(-1), of(api.PCase, "E::F", 0)), px), one: "A::B(mut x, C::D(-1, E::F), x)"},
	}
}

func exprRows() []row {
	var l []row
	for _, rows := range [][]row{plainRows(), signRows(), pairRows(), namedRows(), leaveRows(), closedRows(), blockRows(), matchRows(), firstRows(), bareRows(), withinBareRows()} {
		l = append(l, rows...)
	}
	return l
}

func plainRows() []row {
	return []row{
		{n: a, one: "a"}, {n: of(api.Name, "_a", 7), one: "_a"}, {n: num(0), one: "0"}, {n: num(7), one: "7"}, {n: num(longest), one: "9223372036854775807"},
		{n: of(api.Bool, "", 1), one: "true"}, {n: of(api.Bool, "", 0), one: "false"}, {n: nothing, one: "()"},
		{n: field(a, "f"), one: "a.f"}, {n: field(field(a, "f"), "g"), one: "a.f.g"}, {n: field(num(1), "f"), one: "1.f"}, {n: field(call("f"), "g"), one: "f().g"}, {n: field(build("S"), "f"), one: "S {}.f"},
		{n: field(unary("-", a), "f"), one: "(-a).f"}, {n: field(deref(a), "f"), one: "(*a).f"}, {n: field(borrow(1, a), "f"), one: "(&mut a).f"}, {n: field(binary("+", a, b), "f"), one: "(a + b).f"}, {n: field(breaks, "f"), one: "(break).f"}, {n: field(choose(a, none), "f"), one: "if a {}.f"},
	}
}

func signRows() []row {
	return []row{
		{n: unary("-", a), one: "-a"}, {n: unary("!", a), one: "!a"}, {n: unary("-", unary("-", a)), one: "--a"}, {n: unary("-", unary("-", unary("-", num(1)))), one: "---1"}, {n: unary("!", unary("-", unary("!", a))), one: "!-!a"},
		{n: deref(a), one: "*a"}, {n: deref(deref(a)), one: "**a"}, {n: borrow(0, a), one: "&a"}, {n: borrow(1, a), one: "&mut a"},
		{n: borrow(0, borrow(0, a)), one: "&&a"}, {n: borrow(0, borrow(1, a)), one: "&&mut a"}, {n: borrow(1, borrow(0, a)), one: "&mut &a"}, {n: borrow(1, borrow(1, a)), one: "&mut &mut a"}, {n: borrow(0, borrow(0, borrow(0, a))), one: "&&&a"}, {n: borrow(0, borrow(0, borrow(1, borrow(0, a)))), one: "&&&mut &a"},
		{n: borrow(0, deref(borrow(1, deref(a)))), one: "&*&mut *a"}, {n: deref(unary("-", borrow(0, unary("!", a)))), one: "*-&!a"},
		{n: unary("-", field(a, "f")), one: "-a.f"}, {n: unary("-", binary("*", a, b)), one: "-(a * b)"}, {n: borrow(0, binary("&&", a, b)), one: "&(a && b)"}, {n: deref(assign(a, b)), one: "*(a = b)"}, {n: unary("-", returns), one: "-(return)"}, {n: unary("!", continues), one: "!(continue)"}, {n: borrow(1, loop("'l", none)), one: "&mut 'l: loop {}"}, {n: deref(build("S")), one: "*S {}"},
	}
}

func pairRows() []row {
	l := []row{
		{n: assign(a, b), one: "a = b"}, {n: assign(a, assign(b, c)), one: "a = b = c"}, {n: assign(assign(a, b), c), one: "(a = b) = c"}, {n: assign(assign(a, b), assign(b, c)), one: "(a = b) = b = c"}, {n: assign(binary("||", a, b), binary("||", b, c)), one: "a || b = b || c"},
		{n: assign(breaks, breaks), one: "(break) = break"}, {n: assign(returns, leave(api.Return, "", a)), one: "(return) = return a"}, {n: assign(continues, continues), one: "(continue) = continue"}, {n: assign(deref(a), build("S")), one: "*a = S {}"},
		{n: binary("*", binary("+", a, b), c), one: "(a + b) * c"}, {n: binary("-", a, binary("-", b, c)), one: "a - (b - c)"}, {n: binary("-", binary("-", a, b), c), one: "a - b - c"}, {n: binary("+", a, binary("*", b, unary("-", c))), one: "a + b * -c"},
		{n: binary("||", binary("||", a, b), binary("||", b, c)), one: "a || b || (b || c)"}, {n: binary("&&", binary("&&", a, b), binary("&&", b, c)), one: "a && b && (b && c)"},
	}
	l = append(l,
		row{n: binary("||", binary("&&", a, b), binary("&&", b, c)), one: "a && b || b && c"}, row{n: binary("&&", binary("||", a, b), binary("||", b, c)), one: "(a || b) && (b || c)"},
		row{n: binary("<", binary("<", a, b), binary(">", b, c)), one: "(a < b) < (b > c)"}, row{n: binary("==", binary("==", a, b), c), one: "(a == b) == c"}, row{n: binary("!=", a, binary("!=", b, c)), one: "a != (b != c)"}, row{n: binary(">=", binary("+", a, b), binary("-", a, b)), one: "a + b >= a - b"}, row{n: binary("<=", binary("&&", a, b), binary("||", a, b)), one: "(a && b) <= (a || b)"},
		row{n: binary("%", binary("/", a, b), binary("*", b, c)), one: "a / b % (b * c)"}, row{n: binary("/", a, deref(b)), one: "a / *b"}, row{n: binary("*", a, deref(deref(b))), one: "a * **b"}, row{n: binary("-", a, unary("-", b)), one: "a - -b"}, row{n: binary("&&", a, borrow(0, borrow(0, b))), one: "a && &&b"}, row{n: binary("*", unary("-", a), borrow(1, b)), one: "-a * &mut b"},
		row{n: binary("+", breaks, continues), one: "(break) + (continue)"}, row{n: binary("||", assign(a, b), assign(a, b)), one: "(a = b) || (a = b)"}, row{n: binary("==", choose(a, none), match(a)), one: "if a {} == match a {}"}, row{n: binary("&&", build("S"), build("S")), one: "S {} && S {}"},
	)
	for _, op := range operators {
		l = append(l, row{n: binary(op, a, b), one: "a " + op + " b"})
	}
	return l
}

func namedRows() []row {
	return []row{
		{n: call("f"), one: "f()"}, {n: call("f", a), one: "f(a)"}, {n: call("f", a, call("g", b), nothing), one: "f(a, g(b), ())"}, {n: withTypes(call("f"), tint), one: "f[int]()"}, {n: withTypes(call("f", a), tint, ref("'a", 1, tint)), one: "f[int, &'a mut int](a)"}, {n: call("f", assign(a, b), breaks, build("S")), one: "f(a = b, break, S {})"},
		{n: build("S"), one: "S {}"}, {n: build("S", set("f", a)), one: "S { f: a }"}, {n: build("S", set("f", build("T")), set("g", assign(a, b))), one: "S { f: T {}, g: a = b }"}, {n: withTypes(build("S"), tint), one: "S[int] {}"}, {n: withTypes(build("S", set("f", a)), tint, tint), one: "S[int, int] { f: a }"},
		{n: caseOf("A::B"), one: "A::B"}, {n: caseOf("A::B", a), one: "A::B(a)"}, {n: caseOf("A::B", a, returns, caseOf("C::D")), one: "A::B(a, return, C::D)"}, {n: withTypes(caseOf("A::B"), tint), one: "A::B[int]"}, {n: withTypes(caseOf("A::B", a), tint, list(api.TVec, tint)), one: "A::B[int, Vec[int]](a)"},
	}
}

func leaveRows() []row {
	return []row{
		{n: breaks, one: "break"}, {n: leave(api.Break, "'l"), one: "break 'l"}, {n: leave(api.Break, "", a), one: "break a"}, {n: leave(api.Break, "'l", a), one: "break 'l a"}, {n: leave(api.Break, "", breaks), one: "break break"}, {n: leave(api.Break, "'l", leave(api.Break, "'m", none)), one: "break 'l break 'm {}"},
		{n: leave(api.Break, "", loop("'l", none)), one: "break 'l: loop {}"}, {n: leave(api.Break, "'m", loop("'l", none)), one: "break 'm 'l: loop {}"}, {n: leave(api.Break, "", binary("+", field(while("'l", a, none), "f"), b)), one: "break 'l: while a {}.f + b"},
		{n: leave(api.Break, "", assign(a, b)), one: "break a = b"}, {n: assign(leave(api.Break, "", a), b), one: "(break a) = b"}, {n: assign(a, leave(api.Break, "", b)), one: "a = break b"}, {n: binary("+", leave(api.Return, "", a), b), one: "(return a) + b"}, {n: leave(api.Return, "", binary("+", a, b)), one: "return a + b"},
		{n: continues, one: "continue"}, {n: leave(api.Continue, "'l"), one: "continue 'l"}, {n: returns, one: "return"}, {n: leave(api.Return, "", a), one: "return a"}, {n: leave(api.Return, "", returns), one: "return return"}, {n: leave(api.Return, "", build("S")), one: "return S {}"}, {n: leave(api.Return, "", unary("-", a)), one: "return -a"},
	}
}

func closedRows() []row {
	return []row{
		{n: choose(a, none), one: "if a {}"}, {n: choose(a, ends(b)), one: "if a { b }", lines: "if a {\n    b\n}"}, {n: choose(a, none, none), one: "if a {} else {}"}, {n: choose(a, ends(b), ends(c)), one: "if a { b } else { c }", lines: "if a {\n    b\n} else {\n    c\n}"},
		{n: choose(a, none, choose(b, none)), one: "if a {} else if b {}"}, {n: choose(a, none, choose(b, ends(c), choose(c, none, none))), one: "if a {} else if b { c } else if c {} else {}", lines: "if a {} else if b {\n    c\n} else if c {} else {}"},
		{n: choose(a, none, ends(choose(b, none))), one: "if a {} else { if b {} }", lines: "if a {} else {\n    if b {}\n}"},
		{n: while("", a, none), one: "while a {}"}, {n: while("'l", a, block(eval(breaks))), one: "'l: while a { break; }", lines: "'l: while a {\n    break;\n}"}, {n: loop("", none), one: "loop {}"}, {n: loop("'l", ends(leave(api.Continue, "'l"))), one: "'l: loop { continue 'l }", lines: "'l: loop {\n    continue 'l\n}"},
		{n: choose(ends(a), ends(b)), one: "if { a } { b }", lines: "if {\n    a\n} {\n    b\n}"}, {n: choose(choose(a, none, none), none), one: "if if a {} else {} {}"}, {n: while("", while("'l", a, none), none), one: "while 'l: while a {} {}"}, {n: choose(match(a), none), one: "if match a {} {}"}, {n: choose(binary("<", a, b), none), one: "if a < b {}"}, {n: while("", assign(a, b), none), one: "while a = b {}"},
		{n: call("f", ends(a), block(eval(b))), one: "f({ a }, { b; })", lines: "f({\n    a\n}, {\n    b;\n})"}, {n: build("S", set("f", ends(a)), set("g", none)), one: "S { f: { a }, g: {} }", lines: "S { f: {\n    a\n}, g: {} }"},
	}
}

func blockRows() []row {
	l := []row{
		{n: none, one: "{}"}, {n: ends(a), one: "{ a }", lines: "{\n    a\n}"}, {n: block(eval(a)), one: "{ a; }", lines: "{\n    a;\n}"}, {n: ends(eval(a), let("x", 0, api.Node{}, api.Node{}), b), one: "{ a; let x; b }", lines: "{\n    a;\n    let x;\n    b\n}"},
		{n: ends(none), one: "{ {} }", lines: "{\n    {}\n}"}, {n: ends(ends(ends(a))), one: "{ { { a } } }", lines: "{\n    {\n        {\n            a\n        }\n    }\n}"}, {n: ends(eval(ends(a)), ends(b)), one: "{ { a } { b } }", lines: "{\n    {\n        a\n    }\n    {\n        b\n    }\n}"},
		{n: block(eval(assign(a, ends(b))), eval(call("f", ends(c)))), one: "{ a = { b }; f({ c }); }", lines: "{\n    a = {\n        b\n    };\n    f({\n        c\n    });\n}"},
	}
	for _, c := range []struct {
		n    api.Node
		text string
	}{
		{let("x", 0, api.Node{}, api.Node{}), "let x;"}, {let("x", 1, api.Node{}, api.Node{}), "let mut x;"}, {let("x", 6, api.Node{}, api.Node{}), "let x;"}, {let("x", 7, api.Node{}, api.Node{}), "let mut x;"}, {let("x", 0, tint, api.Node{}), "let x: int;"}, {let("x", 0, api.Node{}, a), "let x = a;"},
		{let("x", 1, ref("'a", 1, tname("T", names("'a"))), num(1)), "let mut x: &'a mut T<'a> = 1;"}, {let("x", longest, tint, assign(a, b)), "let mut x: int = a = b;"}, {let("x", 0, api.Node{}, build("S")), "let x = S {};"}, {let("x", 0, api.Node{}, leave(api.Break, "", a)), "let x = break a;"}, {let("x", 0, api.Node{}, binary("+", choose(a, none), b)), "let x = if a {} + b;"}, {let("x", 0, api.Node{}, loop("'l", none)), "let x = 'l: loop {};"},
	} {
		l = append(l, row{n: block(c.n), one: "{ " + c.text + " }", lines: "{\n    " + c.text + "\n}"}, row{n: ends(c.n, c.n, b), one: "{ " + c.text + " " + c.text + " b }", lines: "{\n    " + c.text + "\n    " + c.text + "\n    b\n}"})
	}
	for i, n := range closedOnes {
		s := closedShown[i]
		l = append(l,
			row{n: block(eval(n)), one: "{ " + s + "; }", lines: "{\n    " + s + ";\n}"}, row{n: ends(n), one: "{ " + s + " }", lines: "{\n    " + s + "\n}"}, row{n: ends(eval(n), n), one: "{ " + s + " " + s + " }", lines: "{\n    " + s + "\n    " + s + "\n}"},
			row{n: block(eval(n), eval(n)), one: "{ " + s + " " + s + "; }", lines: "{\n    " + s + "\n    " + s + ";\n}"}, row{n: ends(eval(n), unary("-", a)), one: "{ " + s + " -a }", lines: "{\n    " + s + "\n    -a\n}"}, row{n: block(eval(n), eval(deref(a))), one: "{ " + s + " *a; }", lines: "{\n    " + s + "\n    *a;\n}"},
			row{n: block(eval(n), let("x", 0, api.Node{}, n)), one: "{ " + s + " let x = " + s + "; }", lines: "{\n    " + s + "\n    let x = " + s + ";\n}"},
		)
	}
	return l
}

func matchRows() []row {
	return []row{
		{n: match(a), one: "match a {}"}, {n: match(a, arm(pany, b)), one: "match a { _ => b }", lines: "match a {\n    _ => b,\n}"}, {n: match(a, arm(pint(-1), b), arm(of(api.PName, "x", 1), c)), one: "match a { -1 => b, mut x => c }", lines: "match a {\n    -1 => b,\n    mut x => c,\n}"},
		{n: match(ends(a), arm(pany, none), arm(px, ends(a)), arm(pany, assign(a, b)), arm(pany, returns)), one: "match { a } { _ => {}, x => { a }, _ => a = b, _ => return }", lines: "match {\n    a\n} {\n    _ => {},\n    x => {\n        a\n    },\n    _ => a = b,\n    _ => return,\n}"},
		{n: match(match(a, arm(pany, b)), arm(pany, match(a, arm(pany, none)))), one: "match match a { _ => b } { _ => match a { _ => {} } }", lines: "match match a {\n    _ => b,\n} {\n    _ => match a {\n        _ => {},\n    },\n}"},
		{n: match(a, arm(pany, build("S")), arm(pany, leave(api.Break, "", b)), arm(pany, binary("+", none, b))), one: "match a { _ => S {}, _ => break b, _ => {} + b }", lines: "match a {\n    _ => S {},\n    _ => break b,\n    _ => {} + b,\n}"},
		{n: match(field(a, "f"), arm(pany, match(b)), arm(pany, choose(a, ends(b), ends(c)))), one: "match a.f { _ => match b {}, _ => if a { b } else { c } }", lines: "match a.f {\n    _ => match b {},\n    _ => if a {\n        b\n    } else {\n        c\n    },\n}"},
		{n: ends(match(a, arm(pany, ends(b)))), one: "{ match a { _ => { b } } }", lines: "{\n    match a {\n        _ => {\n            b\n        },\n    }\n}"},
	}
}

// firstRows is what is closed and stands first, or only looks so.
func firstRows() []row {
	var l []row
	put := func(s string, n api.Node) {
		l = append(l, row{n: block(eval(n)), one: "{ " + s + "; }", lines: "{\n    " + s + ";\n}"}, row{n: ends(n), one: "{ " + s + " }", lines: "{\n    " + s + "\n}"}, row{n: ends(eval(n), n), one: "{ " + s + "; " + s + " }", lines: "{\n    " + s + ";\n    " + s + "\n}"})
	}
	for i, n := range closedOnes {
		s := closedShown[i]
		put("("+s+") + a", binary("+", n, a))
		put("("+s+") || "+s, binary("||", n, n))
		put("("+s+") = "+s, assign(n, n))
		put("("+s+").f", field(n, "f"))
		put("("+s+").f.g + a * b || c = "+s+".f", assign(binary("||", binary("+", field(field(n, "f"), "g"), binary("*", a, b)), c), field(n, "f")))
		put("("+s+" + a).f", field(binary("+", n, a), "f"))
		put("("+s+" = a) = b", assign(assign(n, a), b))
		put("("+s+" + a) * ("+s+" + b)", binary("*", binary("+", n, a), binary("+", n, b)))
		put("-"+s, unary("-", n))
		put("*"+s+".f + "+s, binary("+", deref(field(n, "f")), n))
		put("a = "+s+" + b", assign(a, binary("+", n, b)))
		put("f("+s+" + a)", call("f", binary("+", n, a)))
		put("f("+s+".g) + a", binary("+", call("f", field(n, "g")), a))
		put("break "+s+".f", leave(api.Break, "", field(n, "f")))
		put("-("+s+" + a)", unary("-", binary("+", n, a)))
		l = append(l, row{n: binary("+", n, a), one: s + " + a"}, row{n: choose(binary("+", n, a), none), one: "if " + s + " + a {}"},
			row{n: ends(binary("+", ends(field(n, "f")), a)), one: "{ ({ (" + s + ").f }) + a }", lines: "{\n    ({\n        (" + s + ").f\n    }) + a\n}"})
	}
	return l
}

// bareRows is what may not stand bare, where it would, and what may.
func bareRows() []row {
	var l []row
	for i, around := range bareAround {
		put := func(s string, n api.Node) {
			l = append(l, row{n: around(n), one: bareWords[i] + s + " {}"})
		}
		for j, n := range cutOnes {
			s := cutShown[j]
			put("("+s+")", n)
			put("a = ("+s+")", assign(a, n))
			put("("+s+") = a", assign(n, a))
			put("a + ("+s+")", binary("+", a, n))
			put("-("+s+")", unary("-", n))
			put("&mut *("+s+").f", borrow(1, deref(field(n, "f"))))
			put("f("+s+")", call("f", n))
			put("A::B(a, "+s+")", caseOf("A::B", a, n))
			put("(S { f: "+s+" })", build("S", set("f", n)))
			put("-(a = "+s+")", unary("-", assign(a, n)))
			put("(a = "+s+").f", field(assign(a, n), "f"))
			put("(break "+s+")", leave(api.Break, "", n))
			put("if ("+s+") {}", choose(n, none))
			put("f(if ("+s+") {})", call("f", choose(n, none)))
		}
		put("break", breaks)
		put("break 'l", leave(api.Break, "'l"))
		put("continue 'l", leave(api.Continue, "'l"))
		put("return", returns)
		put("a = break", assign(a, breaks))
		put("-(break)", unary("-", breaks))
		put("A::B", caseOf("A::B"))
		put("A::B[int]", withTypes(caseOf("A::B"), tint))
		put("f[int](a)", withTypes(call("f", a), tint))
		put("'l: loop {}", loop("'l", none))
	}
	return l
}

// withinBareRows is what stands in { } within what stands bare.
func withinBareRows() []row {
	var l []row
	for i, n := range cutOnes {
		s := cutShown[i]
		l = append(l,
			row{n: choose(ends(n), none), one: "if { " + s + " } {}", lines: "if {\n    " + s + "\n} {}"}, row{n: while("", block(eval(n)), none), one: "while { " + s + "; } {}", lines: "while {\n    " + s + ";\n} {}"},
			row{n: match(match(a, arm(pany, n))), one: "match match a { _ => " + s + " } {}", lines: "match match a {\n    _ => " + s + ",\n} {}"}, row{n: choose(loop("", ends(choose(n, ends(n)))), ends(n)), one: "if loop { if (" + s + ") { " + s + " } } { " + s + " }", lines: "if loop {\n    if (" + s + ") {\n        " + s + "\n    }\n} {\n    " + s + "\n}"},
			row{n: choose(a, none, choose(n, none, ends(n))), one: "if a {} else if (" + s + ") {} else { " + s + " }", lines: "if a {} else if (" + s + ") {} else {\n    " + s + "\n}"}, row{n: n, one: s}, row{n: leave(api.Return, "", n), one: "return " + s},
		)
	}
	return l
}

func programRows() []row {
	t := tname("T", noRegions)
	fieldOf := func(s string, t api.Node) api.Node { return of(api.FieldDecl, s, 0, t) }
	caseDecl := func(s string, l ...api.Node) api.Node { return of(api.CaseDecl, s, 0, l...) }
	data := func(kind int, s string, copied int64, l ...api.Node) api.Node { return of(kind, s, copied, l...) }
	fn := func(s string, l ...api.Node) api.Node { return of(api.Fn, s, 0, l...) }
	where := func(s, other string) api.Node { return of(api.Where, s, 0, name(other)) }
	args, wheres := list(api.Args), list(api.Wheres)
	l := []row{
		{n: data(api.Struct, "S", 0, names(), names()), one: "struct S {}"}, {n: data(api.Struct, "S", 1, names(), names()), one: "copy struct S {}"}, {n: data(api.Struct, "S", 0, names("T"), names()), one: "struct S[T] {}"}, {n: data(api.Struct, "S", 0, names(), names("'a")), one: "struct S<'a> {}"}, {n: data(api.Struct, "S", 1, names("T", "U"), twoRegions), one: "copy struct S[T, U]<'a, 'b> {}"},
		{n: data(api.Struct, "S", 0, names(), names(), fieldOf("f", tint)), one: "struct S {\n    f: int,\n}"}, {n: data(api.Struct, "S", 1, names("T"), names("'a"), fieldOf("f", ref("'a", 1, t)), fieldOf("g", tname("S", names("'a"), t))), one: "copy struct S[T]<'a> {\n    f: &'a mut T,\n    g: S[T]<'a>,\n}"},
		{n: data(api.Choice, "C", 0, names(), names()), one: "choice C {}"}, {n: data(api.Choice, "C", 1, names("T", "U"), twoRegions), one: "copy choice C[T, U]<'a, 'b> {}"}, {n: data(api.Choice, "C", 0, names(), names(), caseDecl("A")), one: "choice C {\n    A,\n}"}, {n: data(api.Choice, "C", 1, names("T"), names(), caseDecl("A"), caseDecl("B", t), caseDecl("D", list(api.TBox, t), tint)), one: "copy choice C[T] {\n    A,\n    B(T),\n    D(Box[T], int),\n}"},
		{n: function(none), one: "fn f() {}"}, {n: fn("g", names("T"), names(), args, api.Node{}, wheres, none), one: "fn g[T]() {}"}, {n: fn("g", names(), names("'a"), args, api.Node{}, wheres, none), one: "fn g<'a>() {}"}, {n: fn("g", names(), names(), args, tint, wheres, ends(a)), one: "fn g() -> int {\n    a\n}"},
		{n: fn("g", names(), names(), list(api.Args, of(api.Arg, "x", 0, tint)), api.Node{}, wheres, none), one: "fn g(x: int) {}"}, {n: fn("g", names(), names(), list(api.Args, of(api.Arg, "x", 1, tint), of(api.Arg, "y", 0, t), of(api.Arg, "z", 1, ref("", 0, t))), api.Node{}, wheres, none), one: "fn g(mut x: int, y: T, mut z: &T) {}"},
		{n: fn("g", names(), twoRegions, args, api.Node{}, list(api.Wheres, where("'a", "'b")), none), one: "fn g<'a, 'b>() where 'a: 'b {}"}, {n: fn("g", names("T", "U"), twoRegions, list(api.Args, of(api.Arg, "x", 1, t), of(api.Arg, "y", 0, tname("U", noRegions))), tname("T", twoRegions), list(api.Wheres, where("'a", "'b"), where("'c", "'d")), block(eval(a))), one: "fn g[T, U]<'a, 'b>(mut x: T, y: U) -> T<'a, 'b> where 'a: 'b, 'c: 'd {\n    a;\n}"},
	}
	for i, r := range l {
		l[i] = row{n: list(api.Program, r.n), one: r.one + "\n"}
	}
	s, f := data(api.Struct, "S", 0, names(), names(), fieldOf("f", tint)), function(ends(a))
	return append(l, row{n: list(api.Program), one: ""}, row{n: list(api.Program, s, f), one: "struct S {\n    f: int,\n}\n\nfn f() {\n    a\n}\n"}, row{n: list(api.Program, f, function(none), s), one: "fn f() {\n    a\n}\n\nfn f() {}\n\nstruct S {\n    f: int,\n}\n"})
}
