package parse_test

import (
	"math"
	"math/rand"
	"strconv"
	"strings"
	"testing"

	"borrowdale/api"
	"borrowdale/lex"
	"borrowdale/parse"
	"borrowdale/tree"
)

// maker makes sources by chance (each time the same), and their trees with them: it writes each token, and tells the node of what it has written.
type maker struct {
	*rand.Rand
	b    strings.Builder
	last string   // the token that was written last
	gaps []string // what stands between tokens
}

// gaps is what may stand between tokens.
var gaps = []string{" ", "\n", "\t", "  \n", "/**/", "/* fn ' | \n */", "// } /*\n", " //\n/*/*/\t", "/***/ "}

func newMaker(seed int64, gaps ...string) *maker {
	return &maker{Rand: rand.New(rand.NewSource(seed)), gaps: gaps}
}

// odds is true once in so many times.
func (m *maker) odds(n int) bool { return m.Intn(n) == 0 }

func (m *maker) of(l ...string) string { return l[m.Intn(len(l))] }

// alone is whether a token is one, whatever stands right beside it.
func alone(s string) bool { return s != "" && strings.Contains("(){}[],;", s) }

// gap is what stands ahead of a token. A comment right behind a / would begin at it.
func (m *maker) gap(s string) {
	if (alone(s) || alone(m.last) || m.last == "") && m.odds(2) {
		return
	}
	gap := m.of(m.gaps...)
	if m.last == "/" {
		gap = " " + gap
	}
	m.b.WriteString(gap)
}

// token writes one, and tells where it stands.
func (m *maker) token(s string) int {
	m.gap(s)
	at := m.b.Len()
	m.b.WriteString(s)
	m.last = s
	return at
}

// maybe writes a token, or not.
func (m *maker) maybe(s string) bool {
	if m.odds(2) {
		m.token(s)
		return true
	}
	return false
}

func (m *maker) name() string {
	return m.of("a", "b", "x9", "_1", "fnx", "Vec2", "S", "T", "boxes", "__")
}

func (m *maker) regionName() string { return m.of("'a", "'b", "'fn", "'_", "'x9") }

// some is how many parts a list has.
func (m *maker) some(least int) int { return least + []int{0, 0, 1, 1, 2, 3}[m.Intn(6)] }

// list writes so many parts, up to what closes them; ends: it may end with ",".
func (m *maker) list(count int, closing string, ends bool, part func() api.Node) []api.Node {
	var l []api.Node
	for i := range count {
		l = append(l, part())
		if i < count-1 || ends && m.odds(3) {
			m.token(",")
		}
	}
	if closing != "" {
		m.token(closing)
	}
	return l
}

// word writes a token, and tells a node of it.
func (m *maker) word(kind int, s string) api.Node {
	return api.Node{Kind: kind, Text: s, At: m.token(s)}
}

func (m *maker) names() api.Node {
	n := api.Node{Kind: api.Names}
	if m.odds(3) {
		n.At = m.token("[")
		n.Kids = m.list(m.some(1), "]", true, func() api.Node { return m.word(api.Name, m.name()) })
	}
	return n
}

func (m *maker) regions() api.Node {
	n := api.Node{Kind: api.Names}
	if m.odds(3) {
		n.At = m.token("<")
		n.Kids = m.list(m.some(1), ">", false, func() api.Node { return m.word(api.Name, m.regionName()) })
	}
	return n
}

func (m *maker) program() api.Node {
	n := api.Node{Kind: api.Program}
	for range m.some(0) {
		switch m.Intn(4) {
		case 0:
			n.Kids = append(n.Kids, m.data(api.Struct, "struct", m.field))
		case 1:
			n.Kids = append(n.Kids, m.data(api.Choice, "choice", m.caseDecl))
		default:
			n.Kids = append(n.Kids, m.function())
		}
	}
	m.gap("")
	n.At = m.b.Len()
	if len(n.Kids) > 0 {
		n.At = n.Kids[0].At
	}
	return n
}

func (m *maker) data(kind int, word string, part func() api.Node) api.Node {
	n := api.Node{Kind: kind, Text: m.name()}
	if m.odds(2) {
		n.N = 1
		n.At = m.token("copy")
		m.token(word)
	} else {
		n.At = m.token(word)
	}
	m.token(n.Text)
	n.Kids = []api.Node{m.names(), m.regions()}
	m.token("{")
	n.Kids = append(n.Kids, m.list(m.some(0), "}", true, part)...)
	return n
}

func (m *maker) field() api.Node {
	n := m.word(api.FieldDecl, m.name())
	m.token(":")
	n.Kids = []api.Node{m.aType(4)}
	return n
}

func (m *maker) caseDecl() api.Node {
	n := m.word(api.CaseDecl, m.name())
	if m.maybe("(") {
		n.Kids = m.list(m.some(0), ")", true, func() api.Node { return m.aType(3) })
	}
	return n
}

func (m *maker) function() api.Node {
	n := api.Node{Kind: api.Fn, At: m.token("fn"), Text: m.name()}
	m.token(n.Text)
	n.Kids = []api.Node{m.names(), m.regions(), {Kind: api.Args, At: m.token("(")}, {}, {Kind: api.Wheres}, {}}
	n.Kids[2].Kids = m.list(m.some(0), ")", true, m.arg)
	if m.maybe("->") {
		n.Kids[3] = m.aType(4)
	}
	if m.odds(3) {
		n.Kids[4].At = m.token("where")
		n.Kids[4].Kids = m.list(m.some(1), "", false, m.where)
	}
	n.Kids[5] = m.block(6)
	return n
}

func (m *maker) arg() api.Node {
	n := api.Node{Kind: api.Arg, Text: m.name()}
	if m.odds(3) {
		n.N = 1
		n.At = m.token("mut")
		m.token(n.Text)
	} else {
		n.At = m.token(n.Text)
	}
	m.token(":")
	n.Kids = []api.Node{m.aType(4)}
	return n
}

func (m *maker) where() api.Node {
	n := m.word(api.Where, m.regionName())
	m.token(":")
	n.Kids = []api.Node{m.word(api.Name, m.regionName())}
	return n
}

// mut writes a mut, or not, and tells the N for it.
func (m *maker) mut() int64 {
	if m.odds(3) {
		m.token("mut")
		return 1
	}
	return 0
}

func (m *maker) aType(deep int) api.Node {
	kind := api.TInt + m.Intn(7)
	if deep < 2 {
		kind = api.TInt + m.Intn(4)
	}
	deep--
	n := api.Node{Kind: kind}
	switch kind {
	case api.TInt, api.TBool, api.TUnit:
		n.At = m.token([]string{"int", "bool", "unit"}[kind-api.TInt])
	case api.TName:
		n = m.word(kind, m.name())
		var args []api.Node
		if deep > 0 && m.maybe("[") {
			args = m.list(m.some(1), "]", true, func() api.Node { return m.aType(deep) })
		}
		n.Kids = append([]api.Node{m.regions()}, args...)
	case api.TRef:
		two := m.odds(3)
		n.At = m.token([]string{"&", "&&"}[count(two)])
		inner := n
		inner.At++
		if !two {
			inner = n
		}
		if m.odds(2) {
			inner.Text = m.regionName()
			m.token(inner.Text)
		}
		inner.N = m.mut()
		inner.Kids = []api.Node{m.aType(deep)}
		if !two {
			return inner
		}
		n.Kids = []api.Node{inner}
	default:
		n.At = m.token([]string{"Box", "Vec"}[kind-api.TBox])
		m.token("[")
		n.Kids = m.list(1, "]", false, func() api.Node { return m.aType(deep) })
	}
	return n
}

func count(b bool) int {
	if b {
		return 1
	}
	return 0
}

func (m *maker) block(deep int) api.Node {
	n := api.Node{Kind: api.Block, At: m.token("{")}
	last := m.odds(2)
	statements := m.some(0)
	for i := range statements {
		n.Kids = append(n.Kids, m.statement(deep, i == statements-1 && !last))
	}
	switch {
	case !last:
		n.Kids = append(n.Kids, api.Node{})
	case deep > 1 && m.odds(3):
		n.Kids = append(n.Kids, m.closed(deep))
	default:
		n.Kids = append(n.Kids, m.expr(deep, ask{open: true}))
	}
	m.token("}")
	return n
}

// statement writes one; final: it stands ahead of "}".
func (m *maker) statement(deep int, final bool) api.Node {
	if m.odds(3) {
		return m.let(deep)
	}
	if m.odds(3) && deep > 1 {
		n := m.closed(deep)
		if final || m.odds(3) {
			m.token(";")
		}
		return api.Node{Kind: api.Eval, Kids: []api.Node{n}, At: n.At}
	}
	n := m.expr(deep, ask{open: true})
	m.token(";")
	return api.Node{Kind: api.Eval, Kids: []api.Node{n}, At: n.At}
}

func (m *maker) let(deep int) api.Node {
	n := api.Node{Kind: api.Let, At: m.token("let"), N: m.mut(), Text: m.name(), Kids: make([]api.Node, 2)}
	m.token(n.Text)
	if m.maybe(":") {
		n.Kids[0] = m.aType(3)
	}
	if m.maybe("=") {
		n.Kids[1] = m.expr(deep, ask{})
	}
	m.token(";")
	return n
}

// ask is what an expression's place asks.
type ask struct {
	least   int  // how closely it binds
	bare    bool // it is bare
	open    bool // it begins with nothing closed
	nobrace bool // it doesn't begin with "{"
}

// free is an expression of which nothing is asked.
func (m *maker) free(deep int) func() api.Node {
	return func() api.Node { return m.expr(deep, ask{}) }
}

// expr writes an expression, in ( ), if it must stand there, or by chance.
func (m *maker) expr(deep int, a ask) api.Node {
	if m.odds(12) {
		m.token("(")
		n := m.expr(deep, ask{})
		m.token(")")
		return n
	}
	if deep < 2 {
		return m.leaf(a)
	}
	deep--
	switch m.Intn(12) {
	case 0, 1, 2:
		return m.binary(deep, a)
	case 3:
		if a.least > 0 {
			return m.parens(deep, m.assign)
		}
		return m.assign(deep, a)
	case 4, 5:
		return m.prefixed(deep, a)
	case 6:
		at := m.expr(deep, ask{least: 7, bare: a.bare, open: a.open, nobrace: a.nobrace})
		n := api.Node{Kind: api.Field, At: at.At, Kids: []api.Node{at}}
		m.token(".")
		n.Text = m.name()
		m.token(n.Text)
		return n
	case 7:
		if a.least > 0 {
			return m.parens(deep, m.leave)
		}
		return m.leave(deep, a)
	case 8:
		if a.open || a.nobrace {
			return m.parens(deep, func(deep int, _ ask) api.Node { return m.closed(deep) })
		}
		return m.closed(deep)
	}
	return m.built(deep, a)
}

func (m *maker) parens(deep int, inner func(int, ask) api.Node) api.Node {
	m.token("(")
	n := inner(deep, ask{})
	m.token(")")
	return n
}

// leaf writes an expression of few parts.
func (m *maker) leaf(a ask) api.Node {
	switch m.Intn(8) {
	case 0, 1, 2:
		return m.word(api.Name, m.name())
	case 3:
		i := []int64{0, 1, 7, 10, math.MaxInt64, m.Int63()}[m.Intn(6)]
		return api.Node{Kind: api.Int, N: i, At: m.token(strconv.FormatInt(i, 10))}
	case 4:
		i := m.Intn(2)
		return api.Node{Kind: api.Bool, N: int64(i), At: m.token([]string{"false", "true"}[i])}
	case 5:
		n := api.Node{Kind: api.Nothing, At: m.token("(")}
		m.token(")")
		return n
	case 6:
		n := api.Node{Kind: api.Continue, At: m.token("continue")}
		if m.odds(2) {
			n.Text = m.regionName()
			m.token(n.Text)
		}
		return n
	}
	return m.caseOf(1)
}

// ranks is the operators, by how closely they bind.
var ranks = [][]string{1: {"||"}, 2: {"&&"}, 3: {"==", "!=", "<", "<=", ">", ">="}, 4: {"+", "-"}, 5: {"*", "/", "%"}}

func (m *maker) binary(deep int, a ask) api.Node {
	if a.least > 5 {
		return m.parens(deep, m.binary)
	}
	rank := max(1, a.least) + m.Intn(6-max(1, a.least))
	left := rank
	if rank == 3 {
		left = 4
	}
	first := m.expr(deep, ask{left, a.bare, a.open, a.nobrace})
	n := api.Node{Kind: api.Binary, Text: m.of(ranks[rank]...), At: first.At}
	m.token(n.Text)
	n.Kids = []api.Node{first, m.expr(deep, ask{least: rank + 1, bare: a.bare})}
	return n
}

func (m *maker) assign(deep int, a ask) api.Node {
	first := m.expr(deep, ask{1, a.bare, a.open, a.nobrace})
	m.token("=")
	return api.Node{Kind: api.Assign, At: first.At, Kids: []api.Node{first, m.expr(deep, ask{bare: a.bare})}}
}

func (m *maker) prefixed(deep int, a ask) api.Node {
	if a.least > 6 {
		return m.parens(deep, m.prefixed)
	}
	sign := m.of("-", "!", "*", "&", "&&")
	n := api.Node{At: m.token(sign)}
	kid := func() []api.Node { return []api.Node{m.expr(deep, ask{least: 6, bare: a.bare})} }
	switch sign {
	case "-", "!":
		n.Kind, n.Text = api.Unary, sign
		n.Kids = kid()
	case "*":
		n.Kind = api.Deref
		n.Kids = kid()
	case "&":
		n.Kind, n.N = api.Borrow, m.mut()
		n.Kids = kid()
	case "&&":
		n.Kind = api.Borrow
		n.Kids = []api.Node{{Kind: api.Borrow, At: n.At + 1, N: m.mut()}}
		n.Kids[0].Kids = kid()
	}
	return n
}

// leave writes a break or a return, which must stand where nothing that begins an expression follows: that would be its value.
func (m *maker) leave(deep int, a ask) api.Node {
	n := api.Node{Kind: api.Return, Kids: make([]api.Node, 1)}
	if m.odds(2) {
		n.Kind = api.Break
		n.At = m.token("break")
		if m.odds(2) {
			n.Text = m.regionName()
			m.token(n.Text)
		}
	} else {
		n.At = m.token("return")
	}
	if m.odds(2) {
		n.Kids[0] = m.expr(deep, ask{bare: a.bare, nobrace: a.bare})
	}
	return n
}

// closed writes what needs no ";".
func (m *maker) closed(deep int) api.Node {
	deep--
	switch m.Intn(6) {
	case 0, 1:
		return m.choose(deep)
	case 2:
		n := m.labelled(api.While, "while")
		n.Kids = []api.Node{m.expr(deep, ask{bare: true}), m.block(deep)}
		return n
	case 3:
		n := m.labelled(api.Loop, "loop")
		n.Kids = []api.Node{m.block(deep)}
		return n
	case 4:
		n := api.Node{Kind: api.Match, At: m.token("match"), Kids: []api.Node{m.expr(deep, ask{bare: true})}}
		m.token("{")
		n.Kids = append(n.Kids, m.list(m.some(0), "}", true, func() api.Node {
			p := m.pattern(3)
			m.token("=>")
			return api.Node{Kind: api.Arm, At: p.At, Kids: []api.Node{p, m.expr(deep, ask{})}}
		})...)
		return n
	}
	return m.block(deep)
}

func (m *maker) choose(deep int) api.Node {
	n := api.Node{Kind: api.If, At: m.token("if")}
	n.Kids = []api.Node{m.expr(deep, ask{bare: true}), m.block(deep), {}}
	if m.maybe("else") {
		if deep > 1 && m.odds(2) {
			n.Kids[2] = m.choose(deep - 1)
		} else {
			n.Kids[2] = m.block(deep)
		}
	}
	return n
}

func (m *maker) labelled(kind int, word string) api.Node {
	n := api.Node{Kind: kind}
	if m.odds(2) {
		n = m.word(kind, m.regionName())
		m.token(":")
		m.token(word)
	} else {
		n.At = m.token(word)
	}
	return n
}

// targs writes type arguments, or not.
func (m *maker) targs() api.Node {
	n := api.Node{Kind: api.TArgs}
	if m.odds(3) {
		n.At = m.token("[")
		n.Kids = m.list(m.some(1), "]", true, func() api.Node { return m.aType(3) })
	}
	return n
}

func (m *maker) built(deep int, a ask) api.Node {
	switch m.Intn(3) {
	case 0:
		n := m.word(api.Call, m.name())
		n.Kids = []api.Node{m.targs()}
		m.token("(")
		n.Kids = append(n.Kids, m.list(m.some(0), ")", true, m.free(deep))...)
		return n
	case 1:
		if a.bare {
			return m.parens(deep, m.build)
		}
		return m.build(deep, a)
	}
	return m.caseOf(deep)
}

func (m *maker) build(deep int, _ ask) api.Node {
	n := m.word(api.Build, m.name())
	n.Kids = []api.Node{m.targs()}
	m.token("{")
	n.Kids = append(n.Kids, m.list(m.some(0), "}", true, func() api.Node {
		n := m.word(api.Init, m.name())
		m.token(":")
		n.Kids = []api.Node{m.expr(deep, ask{})}
		return n
	})...)
	return n
}

func (m *maker) caseOf(deep int) api.Node {
	n := m.word(api.Case, m.name())
	m.token("::")
	part := m.name()
	m.token(part)
	n.Text += "::" + part
	n.Kids = []api.Node{m.targs()}
	if deep > 1 && m.maybe("(") {
		n.Kids = append(n.Kids, m.list(m.some(0), ")", true, m.free(deep))...)
	}
	return n
}

func (m *maker) pattern(deep int) api.Node {
	switch m.Intn(5) {
	case 0:
		return api.Node{Kind: api.PAny, At: m.token("_")}
	case 1:
		if m.odds(3) {
			at, s := m.token("mut"), m.name()
			m.token(s)
			return api.Node{Kind: api.PName, Text: s, N: 1, At: at}
		}
		return m.word(api.PName, m.name())
	case 2:
		i := []int64{0, 1, 10, math.MaxInt64, m.Int63()}[m.Intn(5)]
		n := api.Node{Kind: api.PInt, N: i}
		if m.odds(2) {
			n.At, n.N = m.token("-"), -i
			m.token(strconv.FormatInt(i, 10))
		} else {
			n.At = m.token(strconv.FormatInt(i, 10))
		}
		return n
	case 3:
		i := m.Intn(2)
		return api.Node{Kind: api.PBool, N: int64(i), At: m.token([]string{"false", "true"}[i])}
	}
	n := m.word(api.PCase, m.name())
	m.token("::")
	part := m.name()
	m.token(part)
	n.Text += "::" + part
	if deep > 1 && m.maybe("(") {
		n.Kids = m.list(m.some(0), ")", true, func() api.Node { return m.pattern(deep - 1) })
	}
	return n
}

// P4.1, P4.2, P4.3: of sources that are made with their trees, with all sorts of gaps between the tokens, just these trees are told.
func TestMadeSources(t *testing.T) {
	t.Parallel()
	seen := map[int]int{}
	for seed := range int64(6000) {
		m := newMaker(seed, gaps...)
		f := []face{program, aType, expr, pattern}[seed%4]
		var want api.Node
		switch f.class {
		case 0:
			want = m.program()
		case tree.Type:
			want = m.aType(6)
			m.gap("")
		case tree.Expr:
			want = m.expr(7, ask{})
			m.gap("")
		case tree.Pattern:
			want = m.pattern(6)
			m.gap("")
		}
		s := m.b.String()
		if want.Kind == api.Program && len(want.Kids) == 0 {
			want.At = len(s)
		}
		if len(s) > api.MaxSource || tree.Size(want) > api.MaxNodes {
			continue
		}
		n, fault := f.read(s)
		if got := text(n); fault != (api.Fault{}) || got != text(want) {
			t.Fatalf("%s(%q), seed %d: %v\n%s, not\n%s", f.name, s, seed, fault, got, text(want))
		}
		if !f.fits(n) {
			t.Fatalf("%s(%q) doesn't fit", f.name, s)
		}
		for k := range tree.All(n) {
			seen[k.Kind]++
		}
	}
	for kind, name := range kinds {
		if seen[kind] < 50 {
			t.Errorf("%s: made %d times", name, seen[kind])
		}
	}
}

// P4.3: ( ) around a whole expression make no difference, but to where nodes stand; nor do blanks, ends of lines and comments ahead, behind, and between any two tokens.
func TestGapsAndParens(t *testing.T) {
	t.Parallel()
	for seed := range int64(300) {
		m := newMaker(seed, " ")
		f := []face{program, aType, expr, pattern}[seed%4]
		switch f.class {
		case 0:
			m.program()
		case tree.Type:
			m.aType(4)
		case tree.Expr:
			m.expr(4, ask{})
		case tree.Pattern:
			m.pattern(4)
		}
		s := m.b.String()
		want, _ := f.read(s)
		others := []string{}
		for _, gap := range gaps {
			others = append(others, spread(s, gap))
		}
		if f.class == tree.Expr {
			others = append(others, "("+s+")", "( ("+s+"\n) )", strings.Repeat("(", 90)+s+strings.Repeat(")", 90))
		}
		for _, other := range others {
			if n, fault := f.read(other); fault != (api.Fault{}) || !tree.Same(n, want) {
				t.Fatalf("%s(%q): %v, %s, not as of %q", f.name, other, fault, text(n), s)
			}
		}
	}
}

// spread is a source with a gap ahead of each token, and behind the last one.
func spread(s, gap string) string {
	l, _ := lex.Tokens(s)
	var b strings.Builder
	for _, t := range l {
		b.WriteString(gap + " " + t.Text + " ")
	}
	return b.String() + gap
}

// P4.3: of what is wrong, too, blanks and comments change nothing but where it stands.
func TestGapsInFaults(t *testing.T) {
	for _, s := range []string{"fn", "fn f() {", "struct S { a int }", "fn f() { a b }", "fn f() { if S { a: 1 } {} }", "fn f<'a,>() {}"} {
		_, want := parse.Program(s)
		for _, gap := range gaps {
			other := spread(s, gap)
			_, got := parse.Program(other)
			if got.Kind != want.Kind || token(tokens(other), got.At) != token(tokens(s), want.At) {
				t.Errorf("%q: %v, %q: %v", s, want, other, got)
			}
		}
	}
}

// token is which token stands at a place: behind all, how many there are.
func token(l []api.Token, at int) int {
	for i, t := range l {
		if t.At == at {
			return i
		}
	}
	return len(l)
}
