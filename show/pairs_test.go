package show_test

import (
	"slices"
	"strings"
	"testing"

	"borrowdale/api"
)

// ask is what the chapter says of an expression: how close it binds, and whether it may stand bare, or first.
type ask struct {
	close  int
	cut    bool // it may not stand bare
	closed bool // it may not stand first
}

// inner is an expression, and its text.
type inner struct {
	ask
	text string
	n    api.Node
}

func inners() []inner {
	x, y := name("x"), name("y")
	l := []inner{
		{ask{}, "x = y", assign(x, y)}, {ask{}, "break", breaks}, {ask{}, "break 'l", leave(api.Break, "'l")}, {ask{cut: true}, "break x", leave(api.Break, "", x)}, {ask{cut: true}, "break 'l x", leave(api.Break, "'l", x)}, {ask{}, "continue", continues}, {ask{}, "continue 'l", leave(api.Continue, "'l")}, {ask{}, "return", returns}, {ask{cut: true}, "return x", leave(api.Return, "", x)},
		{ask{close: 6}, "-x", unary("-", x)}, {ask{close: 6}, "!x", unary("!", x)}, {ask{close: 6}, "*x", deref(x)}, {ask{close: 6}, "&x", borrow(0, x)}, {ask{close: 6}, "&mut x", borrow(1, x)}, {ask{close: 7}, "x.h", field(x, "h")},
		{ask{close: 8}, "x", x}, {ask{close: 8}, "1", num(1)}, {ask{close: 8}, "true", of(api.Bool, "", 1)}, {ask{close: 8}, "()", nothing}, {ask{close: 8}, "h(x)", call("h", x)}, {ask{close: 8}, "A::B", caseOf("A::B")}, {ask{close: 8}, "A::B(x)", caseOf("A::B", x)}, {ask{close: 8, cut: true}, "T {}", build("T")}, {ask{close: 8, cut: true}, "T { h: x }", build("T", set("h", x))},
		{ask{8, false, true}, "if x {}", choose(x, none)}, {ask{8, false, true}, "if x {} else {}", choose(x, none, none)}, {ask{8, false, true}, "while x {}", while("", x, none)}, {ask{8, false, true}, "'l: while x {}", while("'l", x, none)}, {ask{8, false, true}, "loop {}", loop("", none)}, {ask{8, false, true}, "'l: loop {}", loop("'l", none)}, {ask{8, false, true}, "match x {}", match(x)}, {ask{8, false, true}, "match x { _ => y }", match(x, arm(pany, y))}, {ask{8, false, true}, "{}", none}, {ask{8, false, true}, "{ x }", ends(x)},
	}
	for op, k := range closes() {
		l = append(l, inner{ask{close: k}, "x " + op + " y", binary(op, x, y)})
	}
	slices.SortStableFunc(l, func(a, b inner) int { return strings.Compare(a.text, b.text) })
	return l
}

// closes is how close each operator binds.
func closes() map[string]int {
	l := map[string]int{}
	for k, s := range []string{1: "||", 2: "&&", 3: "== != < <= > >=", 4: "+ -", 5: "* / %"} {
		for _, op := range strings.Fields(s) {
			l[op] = k
		}
	}
	return l
}

// place is where an expression stands in another one: where # is.
type place struct {
	ask           // of the other one
	text   string // the other one's
	around func(api.Node) api.Node
	least  int  // how close one must bind there
	begins bool // the other one begins with it
	within bool // it stands within ( ), [ ] or { } there
	bare   bool // it stands bare there, whatever is around
	opens  bool // it is a statement's expression, or what a block ends with
}

func places() []place {
	z := name("z")
	plain, free, closed := ask{close: 8}, ask{}, ask{8, false, true}
	l := []place{
		{ask: free, text: "# = z", around: func(n api.Node) api.Node { return assign(n, z) }, least: 1, begins: true}, {ask: free, text: "z = #", around: func(n api.Node) api.Node { return assign(z, n) }},
		{ask: ask{close: 6}, text: "-#", around: func(n api.Node) api.Node { return unary("-", n) }, least: 6}, {ask: ask{close: 6}, text: "!#", around: func(n api.Node) api.Node { return unary("!", n) }, least: 6}, {ask: ask{close: 6}, text: "*#", around: deref, least: 6}, {ask: ask{close: 6}, text: "&#", around: func(n api.Node) api.Node { return borrow(0, n) }, least: 6}, {ask: ask{close: 6}, text: "&mut #", around: func(n api.Node) api.Node { return borrow(1, n) }, least: 6},
		{ask: ask{close: 7}, text: "#.f", around: func(n api.Node) api.Node { return field(n, "f") }, least: 7, begins: true},
		{ask: plain, text: "f(#)", around: func(n api.Node) api.Node { return call("f", n) }, within: true}, {ask: plain, text: "f(z, #, z)", around: func(n api.Node) api.Node { return call("f", z, n, z) }, within: true}, {ask: plain, text: "C::D(#)", around: func(n api.Node) api.Node { return caseOf("C::D", n) }, within: true},
		{ask: ask{close: 8, cut: true}, text: "S { f: # }", around: func(n api.Node) api.Node { return build("S", set("f", n)) }, within: true}, {ask: ask{close: 8, cut: true}, text: "S { f: z, g: # }", around: func(n api.Node) api.Node { return build("S", set("f", z), set("g", n)) }, within: true},
		{ask: closed, text: "if # {}", around: func(n api.Node) api.Node { return choose(n, none) }, bare: true}, {ask: closed, text: "if # {} else {}", around: func(n api.Node) api.Node { return choose(n, none, none) }, bare: true}, {ask: closed, text: "if z {} else if # {}", around: func(n api.Node) api.Node { return choose(z, none, choose(n, none)) }, bare: true}, {ask: closed, text: "while # {}", around: func(n api.Node) api.Node { return while("", n, none) }, bare: true}, {ask: closed, text: "match # { _ => z }", around: func(n api.Node) api.Node { return match(n, arm(pany, z)) }, bare: true},
		{ask: closed, text: "if z { # }", around: func(n api.Node) api.Node { return choose(z, ends(n)) }, within: true, opens: true}, {ask: closed, text: "if z {} else { # }", around: func(n api.Node) api.Node { return choose(z, none, ends(n)) }, within: true, opens: true}, {ask: closed, text: "'a: while z { # }", around: func(n api.Node) api.Node { return while("'a", z, ends(n)) }, within: true, opens: true}, {ask: closed, text: "loop { # }", around: func(n api.Node) api.Node { return loop("", ends(n)) }, within: true, opens: true}, {ask: closed, text: "match z { _ => # }", around: func(n api.Node) api.Node { return match(z, arm(pany, n)) }, within: true},
		{ask: closed, text: "{ # }", around: func(n api.Node) api.Node { return ends(n) }, within: true, opens: true}, {ask: closed, text: "{ #; }", around: func(n api.Node) api.Node { return block(eval(n)) }, within: true, opens: true}, {ask: closed, text: "{ let z = #; }", around: func(n api.Node) api.Node { return block(let("z", 0, api.Node{}, n)) }, within: true},
		{ask: ask{cut: true}, text: "break #", around: func(n api.Node) api.Node { return leave(api.Break, "", n) }}, {ask: ask{cut: true}, text: "break 'b #", around: func(n api.Node) api.Node { return leave(api.Break, "'b", n) }}, {ask: ask{cut: true}, text: "return #", around: func(n api.Node) api.Node { return leave(api.Return, "", n) }},
	}
	for op, k := range closes() {
		least := k
		if k == 3 {
			least = 4
		}
		l = append(l, place{ask: ask{close: k}, text: "# " + op + " z", around: func(n api.Node) api.Node { return binary(op, n, z) }, least: least, begins: true}, place{ask: ask{close: k}, text: "z " + op + " #", around: func(n api.Node) api.Node { return binary(op, z, n) }, least: k + 1})
	}
	slices.SortStableFunc(l, func(a, b place) int { return strings.Compare(a.text, b.text) })
	return l
}

// spot is what is asked of what stands in a place.
type spot struct {
	least              int
	bare, first, opens bool
}

// in is what is asked of what stands in a place, of whose own whole s is asked, and whether that stands in ( ).
func (p place) in(s spot) (spot, bool) {
	parens := s.parens(p.ask)
	return spot{least: p.least, bare: p.bare || s.bare && !p.within && !parens, first: p.begins && (s.first || s.opens) && !parens, opens: p.opens}, parens
}

func (s spot) parens(a ask) bool {
	return a.close < s.least || s.bare && a.cut || s.first && a.closed
}

// put is a text with another one in place of #, in ( ), or not.
func put(text, part string, parens bool) string {
	if parens {
		part = "(" + part + ")"
	}
	return strings.Replace(text, "#", part, 1)
}

// chain is an expression in places, each within the one ahead of it: the text, and the tree.
func chain(x inner, l ...place) (string, api.Node) {
	text, s, parens := "#", spot{}, false
	for _, p := range l {
		s, parens = p.in(s)
		text = put(text, p.text, parens)
	}
	n := x.n
	for _, p := range slices.Backward(l) {
		n = p.around(n)
	}
	return put(text, x.text, s.parens(x.ask)), n
}

// P5.1, P5.2: each expression as each Kid of each other: alone, and that as each Kid of one more.
func TestPairs(t *testing.T) {
	t.Parallel()
	seen, l := 0, places()
	for _, x := range inners() {
		for _, p := range l {
			text, n := chain(x, p)
			expr.holds(t, n, text)
			for _, o := range l {
				text, n = chain(x, o, p)
				expr.holds(t, n, text)
				seen++
			}
		}
	}
	t.Logf("%d texts", seen)
}

// P5.1, P5.2: each expression that a statement, or what a block ends with, begins with: as the first Kid of the first Kid, and so on.
func TestFirstOfStatements(t *testing.T) {
	t.Parallel()
	seen, l := 0, places()
	for _, o := range l {
		if !o.opens {
			continue
		}
		for _, p := range l {
			for _, q := range l {
				if !p.begins || !q.begins {
					continue
				}
				for _, x := range inners() {
					if x.closed || x.close < 2 || x.cut {
						text, n := chain(x, o, p, q)
						expr.holds(t, n, text)
						seen++
					}
				}
			}
		}
	}
	t.Logf("%d texts", seen)
}
