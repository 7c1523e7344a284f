package show_test

import (
	"math"
	"math/rand"
	"strings"
	"testing"

	"borrowdale/api"
	"borrowdale/lex"
	"borrowdale/tree"
)

// maker makes nodes by chance, the same ones of the same seed.
type maker struct{ *rand.Rand }

func newMaker(seed int64) maker { return maker{rand.New(rand.NewSource(seed))} }

func (m maker) odds(n int) bool { return m.Intn(n) == 0 }

func (m maker) of(l ...string) string { return l[m.Intn(len(l))] }

func (m maker) name() string {
	return m.of("a", "b", "x", "_a", "__", "S", "T", "iff", "Boxes", "box", "a1", "unit_", "Z9_z")
}

func (m maker) region() string { return m.of("'a", "'b", "'_", "'l", "'if", "'a1") }

// regionOrNone is a region, or nothing.
func (m maker) regionOrNone() string { return m.of("", "", "'a", "'l", "'_") }

func (m maker) caseName() string { return m.name() + "::" + m.name() }

// some is a few nodes.
func (m maker) some(one func() api.Node) []api.Node {
	var l []api.Node
	for range m.Intn(4) * m.Intn(2) {
		l = append(l, one())
	}
	return l
}

func (m maker) number() int64 {
	return []int64{0, 1, 7, 10, math.MaxInt64, m.Int63(), m.Int63n(1000)}[m.Intn(7)]
}

// untold is the N of what may be mut: that, and the number of a local, or none.
func (m maker) untold() int64 {
	return []int64{0, 0, 1, 1, 2, 3, m.Int63()}[m.Intn(7)]
}

func (m maker) names(one func() string) api.Node {
	return list(api.Names, m.some(func() api.Node { return name(one()) })...)
}

func (m maker) program() api.Node { return list(api.Program, m.some(m.item)...) }

func (m maker) item() api.Node {
	heads := []api.Node{m.names(m.name), m.names(m.region)}
	switch m.Intn(4) {
	case 0:
		return of(api.Struct, m.name(), m.Int63n(2), append(heads, m.some(func() api.Node { return of(api.FieldDecl, m.name(), 0, m.aType(4)) })...)...)
	case 1:
		return of(api.Choice, m.name(), m.Int63n(2), append(heads, m.some(func() api.Node { return of(api.CaseDecl, m.name(), 0, m.types(4)...) })...)...)
	}
	args := list(api.Args, m.some(func() api.Node { return of(api.Arg, m.name(), m.Int63n(2), m.aType(4)) })...)
	wheres := list(api.Wheres, m.some(func() api.Node { return of(api.Where, m.region(), 0, name(m.region())) })...)
	return of(api.Fn, m.name(), 0, append(heads, args, m.typeOrNone(), wheres, m.block(8))...)
}

func (m maker) typeOrNone() api.Node {
	if m.odds(2) {
		return api.Node{}
	}
	return m.aType(4)
}

func (m maker) types(deep int) []api.Node {
	return m.some(func() api.Node { return m.aType(deep) })
}

func (m maker) aType(deep int) api.Node {
	if deep < 2 {
		return list(api.TInt + m.Intn(3))
	}
	deep--
	switch kind := api.TInt + m.Intn(7); kind {
	case api.TName:
		return tname(m.name(), with(m.names(m.region), m.types(deep))...)
	case api.TRef:
		return ref(m.regionOrNone(), m.Int63n(2), m.aType(deep))
	case api.TBox, api.TVec:
		return list(kind, m.aType(deep))
	default:
		return list(kind)
	}
}

func (m maker) pattern(deep int) api.Node {
	switch kind := api.PAny + m.Intn(5); kind {
	case api.PName:
		return of(kind, m.name(), m.untold())
	case api.PInt:
		return of(kind, "", m.number()*(1-2*m.Int63n(2)))
	case api.PBool:
		return of(kind, "", m.Int63n(2))
	case api.PCase:
		n := of(kind, m.caseName(), 0)
		if deep > 1 {
			n.Kids = m.some(func() api.Node { return m.pattern(deep - 1) })
		}
		return n
	default:
		return list(kind)
	}
}

func (m maker) block(deep int) api.Node {
	n := list(api.Block, m.some(func() api.Node { return m.statement(deep - 1) })...)
	n.Kids = append(n.Kids, m.exprOrNone(deep-1))
	return n
}

func (m maker) exprOrNone(deep int) api.Node {
	if m.odds(2) || deep < 1 {
		return api.Node{}
	}
	return m.expr(deep)
}

func (m maker) statement(deep int) api.Node {
	if m.odds(4) {
		return let(m.name(), m.untold(), m.typeOrNone(), m.exprOrNone(deep))
	}
	return eval(m.expr(deep))
}

func (m maker) expr(deep int) api.Node {
	if deep < 2 {
		return m.leaf()
	}
	one := func() api.Node { return m.expr(deep - 1) }
	switch m.Intn(16) {
	case 0, 1:
		return binary(m.of(operators...), one(), one())
	case 2:
		return assign(one(), one())
	case 3:
		return []api.Node{unary("-", one()), unary("!", one()), deref(one()), borrow(0, one()), borrow(1, one())}[m.Intn(5)]
	case 4:
		return field(one(), m.name())
	case 5, 6:
		return m.named(one)
	case 7:
		return leave(api.Break, m.regionOrNone(), m.exprOrNone(deep-1))
	case 8:
		return leave(api.Return, "", m.exprOrNone(deep-1))
	case 9:
		return choose(one(), m.block(deep-1), m.otherwise(deep-1))
	case 10:
		return while(m.regionOrNone(), one(), m.block(deep-1))
	case 11:
		return loop(m.regionOrNone(), m.block(deep-1))
	case 12:
		return match(one(), m.some(func() api.Node { return arm(m.pattern(3), one()) })...)
	case 13, 14:
		return m.block(deep - 1)
	}
	return m.leaf()
}

// otherwise is what stands behind else, or None.
func (m maker) otherwise(deep int) api.Node {
	switch {
	case m.odds(2):
		return api.Node{}
	case m.odds(2) && deep > 1:
		return choose(m.expr(deep-1), m.block(deep-1), m.otherwise(deep-1))
	}
	return m.block(deep)
}

func (m maker) named(one func() api.Node) api.Node {
	types := targs(m.types(3)...)
	switch m.Intn(3) {
	case 0:
		return of(api.Call, m.name(), 0, with(types, m.some(one))...)
	case 1:
		return of(api.Case, m.caseName(), 0, with(types, m.some(one))...)
	}
	return of(api.Build, m.name(), 0, with(types, m.some(func() api.Node { return set(m.name(), one()) }))...)
}

func (m maker) leaf() api.Node {
	switch m.Intn(9) {
	case 0:
		return num(m.number())
	case 1:
		return of(api.Bool, "", m.Int63n(2))
	case 2:
		return nothing
	case 3:
		return leave(api.Continue, m.regionOrNone())
	case 4:
		return caseOf(m.caseName())
	case 5:
		return build(m.name())
	case 6:
		return []api.Node{breaks, returns, none, loop(m.regionOrNone(), none)}[m.Intn(4)]
	}
	return of(api.Name, m.name(), m.untold())
}

// made is a node of a face, made by chance.
func (f face) made(seed int64) api.Node {
	m := newMaker(seed)
	switch f.name {
	case "Program":
		return m.program()
	case "Type":
		return m.aType(7)
	case "Expr":
		return m.expr(3 + m.Intn(6))
	}
	return m.pattern(5)
}

// step is a node, and which of its Kids comes next; parens: it stands in ( ).
type step struct {
	api.Node
	kid    int
	parens bool
}

// parens is how many ( the texts of all nodes have, those around a node as the chapter says of where it stands.
func parens(n api.Node, way []step) int {
	count := 0
	switch n.Kind {
	case api.Fn, api.Call, api.Nothing:
		count = 1
	case api.Case:
		count = min(1, len(n.Kids)-1)
	case api.PCase, api.CaseDecl:
		count = min(1, len(n.Kids))
	}
	around := looser(n, way) || cut(n) && bare(way) || isClosed(n) && first(way)
	if around {
		count++
	}
	for i, kid := range n.Kids {
		count += parens(kid, append(way, step{n, i, around}))
	}
	return count
}

// binds is how close a node binds; what is no expression binds closely enough.
func binds(n api.Node) int {
	switch n.Kind {
	case api.Assign, api.Break, api.Continue, api.Return:
		return 0
	case api.Binary:
		return closes()[n.Text]
	case api.Unary, api.Deref, api.Borrow:
		return 6
	case api.Field:
		return 7
	}
	return 8
}

// looser is whether a node binds less closely than is asked.
func looser(n api.Node, way []step) bool {
	if len(way) == 0 {
		return false
	}
	of := way[len(way)-1]
	asked := 0
	switch of.Kind {
	case api.Unary, api.Deref, api.Borrow, api.Field:
		asked = binds(of.Node)
	case api.Assign:
		asked = 1 - of.kid
	case api.Binary:
		asked = binds(of.Node) + of.kid
		if binds(of.Node) == 3 {
			asked = 4
		}
	}
	return binds(n) < asked
}

func cut(n api.Node) bool {
	return n.Kind == api.Build || (n.Kind == api.Break || n.Kind == api.Return) && n.Kids[0].Kind != api.None
}

// bare is whether what a way leads to stands bare.
func bare(way []step) bool {
	for i := len(way) - 1; i >= 0; i-- {
		s := way[i]
		switch s.Kind {
		case api.If, api.While, api.Match:
			if s.kid == 0 {
				return true
			}
		case api.Call, api.Case, api.Build, api.Block, api.Arm:
			return false
		}
		if s.parens {
			return false
		}
	}
	return false
}

func isClosed(n api.Node) bool {
	switch n.Kind {
	case api.If, api.While, api.Loop, api.Match, api.Block:
		return true
	}
	return false
}

// first is whether what a way leads to stands first.
func first(way []step) bool {
	for i := len(way) - 1; i >= 0; i-- {
		s := way[i]
		pair := s.Kind == api.Binary || s.Kind == api.Assign || s.Kind == api.Field
		if !pair {
			opens := s.Kind == api.Eval || s.Kind == api.Block && s.kid == len(s.Kids)-1
			return opens && i < len(way)-1
		}
		if s.kid != 0 || s.parens {
			return false
		}
	}
	return false
}

// P5.1, P5.2: whatever is shown of a tree that fits is parsed to the same, bare tree, and shown again it is the same text; it has no ( that the chapter doesn't ask for.
func TestMadeTrees(t *testing.T) {
	t.Parallel()
	seen, longer := map[int]int{}, 0
	for seed := range int64(20000) {
		f := faces[seed%4]
		n := f.made(seed)
		s, e := f.show(n)
		if e == api.ErrMany {
			longer++
			continue
		}
		if e != api.OK {
			t.Fatalf("%s, seed %d: %d", f.name, seed, e)
		}
		f.returns(t, n, s)
		if got, want := strings.Count(s, "("), parens(n, nil); got != want {
			t.Fatalf("%s, seed %d: %d (, not %d, in\n%s", f.name, seed, got, want, s)
		}
		for k := range tree.All(n) {
			seen[k.Kind]++
		}
		if b, e := f.show(tree.Bare(n)); e != api.OK || b != s {
			t.Fatalf("%s, seed %d: bare it is shown otherwise", f.name, seed)
		}
	}
	for kind := range api.PCase + 1 {
		one := api.None <= kind && kind <= api.CaseDecl || api.TInt <= kind && kind <= api.TVec || api.Let <= kind && kind <= api.Eval || api.Int <= kind && kind <= api.Assign || api.PAny <= kind
		if one && seen[kind] < 200 {
			t.Errorf("Kind %d: made %d times", kind, seen[kind])
		}
	}
	if longer > 1000 {
		t.Errorf("%d are too long", longer)
	}
}

// P5.1: in lines and in one line the tokens are the same, but for what stands behind the last arm of a Match.
func TestLinesAndOneLine(t *testing.T) {
	t.Parallel()
	for seed := range int64(3000) {
		n := newMaker(seed).expr(7)
		one, e := expr.show(n)
		lines, e2 := program.show(list(api.Program, function(block(let("x", 0, api.Node{}, n)))))
		if e != api.OK || e2 != api.OK {
			continue
		}
		if got, want := tokensOf(t, lines), tokensOf(t, "fn f() { let x = "+one+"; }"); strings.ReplaceAll(got, " , }", " }") != want {
			t.Fatalf("seed %d:\n%s\nnot\n%s", seed, lines, one)
		}
		if strings.ContainsAny(one, "\n\t") || strings.Contains(one, "  ") || strings.Contains(lines, " \n") {
			t.Fatalf("seed %d: blanks in\n%s\n%s", seed, one, lines)
		}
	}
}

// tokensOf is a text's tokens, with a blank between each two.
func tokensOf(t *testing.T, s string) string {
	l, f := lex.Tokens(s)
	if f != (api.Fault{}) {
		t.Fatal(f, s)
	}
	return lex.Join(l)
}
