package tree

import (
	"math"
	"reflect"
	"regexp"
	"slices"
	"strconv"
	"strings"
	"testing"

	"borrowdale/api"
	"borrowdale/lex"
)

// table is the chapter's table: a Kind, its Text, its least and its greatest N, and its Kids as a pattern.
const table = `
None        empty    0 0
Program     empty    0 0 ITEM*
Struct      name     0 1 Names Names FieldDecl*
Choice      name     0 1 Names Names CaseDecl*
Fn          name     0 0 Names Names Args (TYPE|None) Wheres Block
Names       empty    0 0 Name*
Args        empty    0 0 Arg*
Arg         name     0 1 TYPE
Wheres      empty    0 0 Where*
Where       region   0 0 Name
FieldDecl   name     0 0 TYPE
CaseDecl    name     0 0 TYPE*
TInt        empty    0 0
TBool       empty    0 0
TUnit       empty    0 0
TName       name     0 0 Names TYPE*
TRef        maybe    0 1 TYPE
TBox        empty    0 0 TYPE
TVec        empty    0 0 TYPE
Let         name     0 + (TYPE|None) (EXPR|None)
Eval        empty    0 0 EXPR
Name        name     0 +
Int         empty    0 +
Bool        empty    0 1
Nothing     empty    0 0
Unary       unary    0 0 EXPR
Binary      binary   0 0 EXPR EXPR
Borrow      empty    0 1 EXPR
Deref       empty    0 0 EXPR
Field       name     0 0 EXPR
Call        name     0 0 TArgs EXPR*
TArgs       empty    0 0 TYPE*
Build       name     0 0 TArgs Init*
Init        name     0 0 EXPR
Case        case     0 0 TArgs EXPR*
If          empty    0 0 EXPR Block (Block|If|None)
While       maybe    0 0 EXPR Block
Loop        maybe    0 0 Block
Break       maybe    0 0 (EXPR|None)
Continue    maybe    0 0
Return      empty    0 0 (EXPR|None)
Block       empty    0 0 STATEMENT* (EXPR|None)
Match       empty    0 0 EXPR Arm*
Arm         empty    0 0 PATTERN EXPR
Assign      empty    0 0 EXPR EXPR
PAny        empty    0 0
PName       name     0 +
PInt        empty    - +
PBool       empty    0 1
PCase       case     0 0 PATTERN*
`

// names is the Kinds' names, by their numbers.
func names() map[int]string {
	l := map[int]string{}
	put := func(first int, words string) {
		for i, s := range strings.Fields(words) {
			l[first+i] = s
		}
	}
	put(0, "None Program Struct Choice Fn Names Name Arg Args Where Wheres FieldDecl CaseDecl")
	put(20, "TInt TBool TUnit TName TRef TBox TVec")
	put(30, "Let Eval")
	put(40, "Int Bool Nothing Unary Binary Borrow Deref Field Call TArgs Build Init Case If While Loop Break Continue Return Block Match Arm Assign")
	put(70, "PAny PName PInt PBool PCase")
	return l
}

// classes is the Kinds of each class.
var classes = map[string]string{
	"ITEM":      "Struct|Choice|Fn",
	"TYPE":      "TInt|TBool|TUnit|TName|TRef|TBox|TVec",
	"STATEMENT": "Let|Eval",
	"EXPR":      "Name|Int|Bool|Nothing|Unary|Binary|Borrow|Deref|Field|Call|Build|Case|If|While|Loop|Break|Continue|Return|Block|Match|Assign",
	"PATTERN":   "PAny|PName|PInt|PBool|PCase",
}

// classOf is each class by its number.
func classOf(class int) []string {
	l := []string{"ITEM", "TYPE", "STATEMENT", "EXPR", "PATTERN"}
	if class < 1 || class > len(l) {
		return nil
	}
	return strings.Split(classes[l[class-1]], "|")
}

// row is a row of the table.
type row struct {
	text        string
	least, most int64
	kids        *regexp.Regexp
}

// book is the table's rows, by the Kinds' names.
type book struct {
	names map[int]string
	rows  map[string]row
}

// read is the table.
func read() book {
	b := book{names: names(), rows: map[string]row{}}
	number := func(s string) int64 {
		switch s {
		case "+":
			return math.MaxInt64
		case "-":
			return -math.MaxInt64
		}
		n, _ := strconv.ParseInt(s, 10, 64)
		return n
	}
	word := regexp.MustCompile(`[A-Za-z]+`)
	for _, line := range strings.Split(strings.TrimSpace(table), "\n") {
		f := strings.Fields(line)
		kids := word.ReplaceAllStringFunc(strings.Join(f[4:], " "), func(s string) string {
			if c, ok := classes[s]; ok {
				s = c
			}
			return "(?:(?:" + s + ");)"
		})
		pattern := regexp.MustCompile("^(?:" + strings.ReplaceAll(kids, " ", "") + ")$")
		b.rows[f[0]] = row{text: f[1], least: number(f[2]), most: number(f[3]), kids: pattern}
	}
	return b
}

// A word, and a region.
var (
	word   = regexp.MustCompile(`\A[A-Za-z_][A-Za-z_0-9]*\z`)
	marked = regexp.MustCompile(`\A'[A-Za-z_][A-Za-z_0-9]*\z`)
)

// isText is whether a text is what the table calls so.
func isText(s, what string) bool {
	name := func(s string) bool { return word.MatchString(s) && !lex.Keyword(s) && s != "_" }
	region := marked.MatchString(s)
	switch what {
	case "name":
		return name(s)
	case "region":
		return region
	case "maybe":
		return region || s == ""
	case "case":
		l := strings.Split(s, "::")
		return len(l) == 2 && name(l[0]) && name(l[1])
	case "unary":
		return slices.Contains(strings.Fields("- !"), s)
	case "binary":
		return slices.Contains(strings.Fields("|| && == != < <= > >= + - * / %"), s)
	}
	return s == ""
}

// place is a node, with how deep it lies, and what a Name must be there ("" where it is an expression).
type place struct {
	n    api.Node
	deep int
	name string
}

// places is all nodes in order.
func places(n api.Node) []place {
	var l []place
	var walk func(p place)
	walk = func(p place) {
		l = append(l, p)
		k := p.n.Kind
		for i, kid := range p.n.Kids {
			q := place{n: kid, deep: p.deep + 1}
			switch declared := k == api.Struct || k == api.Choice || k == api.Fn; {
			case k == api.Names:
				q.name = p.name
			case i == 0 && declared:
				q.name = "name"
			case i == 1 && declared, i == 0 && k == api.TName, k == api.Where:
				q.name = "region"
			}
			walk(q)
		}
	}
	walk(place{n: n, deep: 1})
	return l
}

// holds is whether a node has what the table says.
func (b book) holds(p place) bool {
	r, ok := b.rows[b.names[p.n.Kind]]
	if !ok || p.n.N < r.least || p.n.N > r.most {
		return false
	}
	what := r.text
	if p.n.Kind == api.Name && p.name != "" {
		what = p.name
		if p.n.N != 0 {
			return false
		}
	}
	var kinds strings.Builder
	for _, kid := range p.n.Kids {
		name, ok := b.names[kid.Kind]
		if !ok {
			name = "?"
		}
		kinds.WriteString(name + ";")
	}
	return isText(p.n.Text, what) && r.kids.MatchString(kinds.String())
}

// fault is the first error, of a tree that is, or isn't, of the Kind that is asked.
func (b book) fault(n api.Node, asked bool) api.Fault {
	l := places(n)
	for _, p := range l {
		if p.deep > 60 {
			return api.Fault{Kind: api.ErrDeep, At: p.n.At}
		}
	}
	if len(l) > 20000 {
		return api.Fault{Kind: api.ErrMany, At: l[20000].n.At}
	}
	for i, p := range l {
		if i == 0 && !asked || !b.holds(p) {
			return api.Fault{Kind: api.ErrShape, At: p.n.At}
		}
	}
	return api.Fault{}
}

// of is a node.
func of(kind int, text string, n int64, kids ...api.Node) api.Node {
	return api.Node{Kind: kind, Text: text, N: n, Kids: kids}
}

// list is a node with Kids alone.
func list(kind int, kids ...api.Node) api.Node { return of(kind, "", 0, kids...) }

// told is Names, Args and so on with one Kid for each text.
func told(kind, each int, texts ...string) api.Node {
	n := list(kind)
	for _, s := range texts {
		n.Kids = append(n.Kids, of(each, s, 0))
	}
	return n
}

// numbered is the same with places from 100 on, each its own.
func numbered(n api.Node) api.Node {
	at := 99
	var walk func(n api.Node) api.Node
	walk = func(n api.Node) api.Node {
		at++
		n.At = at
		n.Kids = slices.Clone(n.Kids)
		for i, kid := range n.Kids {
			n.Kids[i] = walk(kid)
		}
		return n
	}
	return walk(n)
}

// function is a function of a body's nodes.
func function(name string, body ...api.Node) api.Node {
	return of(api.Fn, name, 0, list(api.Names), list(api.Names), list(api.Args), list(api.None), list(api.Wheres), list(api.Block, body...))
}

// first is where the first statement of a program of just one function lies, once it is numbered: it is 4 deep.
const first = 108

// eval is a statement of an expression.
func eval(n api.Node) api.Node { return list(api.Eval, n) }

// statements is statements in which each Kind of an expression and of a pattern stands.
func statements() []api.Node {
	x, one, none := of(api.Name, "x", 7), of(api.Int, "", 1), list(api.None)
	empty := list(api.Block, none)
	short := list(api.If, of(api.Bool, "", 1), empty, none)
	return []api.Node{
		of(api.Let, "x", 15, list(api.TInt), one),
		of(api.Let, "y", 2, none, none),
		of(api.Let, "z", math.MaxInt64, none, of(api.Int, "", math.MaxInt64)),
		eval(list(api.If, of(api.Bool, "", 0), empty, list(api.If, x, empty, list(api.Block, x)))),
		eval(of(api.While, "'w", 0, of(api.Unary, "!", 0, x), list(api.Block, eval(of(api.Continue, "'w", 0)), none))),
		eval(of(api.While, "", 0, of(api.Binary, "<=", 0, x, one), list(api.Block, short))),
		eval(of(api.Loop, "", 0, list(api.Block, eval(of(api.Break, "", 0, none)), of(api.Continue, "", 0)))),
		eval(of(api.Loop, "'_", 0, list(api.Block, of(api.Break, "'_", 0, one)))),
		eval(list(api.Match, x)),
		eval(list(api.Match, list(api.Deref, x),
			list(api.Arm, of(api.PCase, "List::Cons", 0, of(api.PName, "n", 13), of(api.PInt, "", -math.MaxInt64), of(api.PBool, "", 1)), one),
			list(api.Arm, of(api.PCase, "List::End", 0), list(api.Return, none)),
			list(api.Arm, of(api.PName, "n", 0), list(api.Return, one)),
			list(api.Arm, of(api.PInt, "", math.MaxInt64), list(api.Nothing)),
			list(api.Arm, of(api.PBool, "", 0), empty),
			list(api.Arm, list(api.PAny), list(api.Assign, of(api.Field, "f", 0, x), of(api.Unary, "-", 0, one))))),
		eval(of(api.Call, "f", 0, list(api.TArgs))),
		eval(of(api.Call, "f", 0, list(api.TArgs, list(api.TInt), list(api.TBool)), of(api.Borrow, "", 1, x), of(api.Borrow, "", 0, one))),
		eval(of(api.Build, "Pair", 0, list(api.TArgs))),
		eval(of(api.Build, "Pair", 0, list(api.TArgs, list(api.TUnit)), of(api.Init, "a", 0, one), of(api.Init, "b", 0, x))),
		eval(of(api.Case, "List::End", 0, list(api.TArgs))),
		eval(of(api.Case, "List::Cons", 0, list(api.TArgs, list(api.TInt)), one, x)),
	}
}

// sample is a program in which each Kind of the table stands, right.
func sample() api.Node {
	regions := func(l ...string) api.Node { return told(api.Names, api.Name, l...) }
	ref := of(api.TRef, "'a", 1, of(api.TName, "T", 0, list(api.Names)))
	data := of(api.TName, "Pair", 0, regions("'a", "'b"), of(api.TRef, "", 0, list(api.TInt)), list(api.TBox, list(api.TVec, list(api.TBool))))
	return numbered(list(api.Program,
		of(api.Struct, "Pair", 1, told(api.Names, api.Name, "T", "_u"), regions("'a", "'b"),
			of(api.FieldDecl, "a", 0, ref), of(api.FieldDecl, "b", 0, list(api.TUnit))),
		of(api.Struct, "Empty", 0, list(api.Names), list(api.Names)),
		of(api.Choice, "List", 1, told(api.Names, api.Name, "T"), regions("'fn"),
			of(api.CaseDecl, "End", 0), of(api.CaseDecl, "Cons", 0, list(api.TInt), data)),
		of(api.Fn, "main", 0, told(api.Names, api.Name, "T"), regions("'a", "'b"),
			list(api.Args, of(api.Arg, "x", 1, ref), of(api.Arg, "y9", 0, data)), list(api.TUnit),
			list(api.Wheres, of(api.Where, "'a", 0, of(api.Name, "'b", 0)), of(api.Where, "'b", 0, of(api.Name, "'c", 0))),
			list(api.Block, append(statements(), of(api.Binary, "%", 0, of(api.Int, "", 0), of(api.Int, "", 2)))...)),
		function("empty", list(api.None))))
}

// chain is a node so deep, within itself.
func chain(n, deepest api.Node, deep int) api.Node {
	for range deep - 1 {
		deepest = of(n.Kind, n.Text, n.N, append(slices.Clone(n.Kids), deepest)...)
	}
	return deepest
}

// derefs is an expression so deep.
func derefs(deep int) api.Node {
	return chain(list(api.Deref), of(api.Name, "x", 3), deep)
}

// cut is the node number i in order of a tree; with is the tree with another one there.
func cut(n api.Node, i int) api.Node { return places(n)[i].n }

func with(n api.Node, i int, other api.Node) api.Node {
	var walk func(n api.Node) api.Node
	walk = func(n api.Node) api.Node {
		i--
		if i == -1 {
			return other
		}
		n.Kids = slices.Clone(n.Kids)
		for k, kid := range n.Kids {
			n.Kids[k] = walk(kid)
		}
		return n
	}
	return walk(n)
}

// changed is a node in other ways: other texts, numbers, Kinds, and Kids left out, put in, put in place of one.
func changed(n api.Node) []api.Node {
	var l []api.Node
	put := func(change func(m *api.Node)) {
		m := n
		m.Kids = slices.Clone(n.Kids)
		change(&m)
		l = append(l, m)
	}
	for _, s := range words() {
		put(func(m *api.Node) { m.Text = s })
	}
	for _, i := range []int64{math.MinInt64, -math.MaxInt64, -2, -1, 0, 1, 2, 3, math.MaxInt64} {
		put(func(m *api.Node) { m.N = i })
	}
	for kind := -1; kind <= 108; kind++ {
		put(func(m *api.Node) { m.Kind = kind })
	}
	for i := range n.Kids {
		put(func(m *api.Node) { m.Kids = slices.Delete(m.Kids, i, i+1) })
		put(func(m *api.Node) { m.Kids = slices.Insert(m.Kids, i, m.Kids[i]) })
		put(func(m *api.Node) { m.Kids[i], m.Kids[0] = m.Kids[0], m.Kids[i] })
	}
	for _, kid := range strangers() {
		put(func(m *api.Node) { m.Kids = append(m.Kids, kid) })
		for i := range n.Kids {
			put(func(m *api.Node) { m.Kids[i] = kid })
		}
	}
	return l
}

// words is texts that are of each kind that the table asks, or hardly not.
func words() []string {
	l := strings.Fields("x _ __ _1 1x 9 x-y fn Box copy int T'a ' '' '_ 'a 'a9 '9 'fn ''a 'a-b a::b a:b ::b a:: :: a:::b a::b::c a::_ fn::a a::fn 'a::b 1::2 . ! - -- || | && & == = != < <= =< > >= >> + * / %")
	return append(l, "", " ", "x ", " x", "a ::b", "a:: b", "x\n", "'a\n", "- ", "\u00e9", "x\u00e9", "'\u00e9", "x\x00", "@", "[", "`", "{", "x:", "x/")
}

// strangers is one node of each Kind, right as it stands somewhere, and some of Kinds that aren't there.
func strangers() []api.Node {
	seen := map[int]bool{}
	var l []api.Node
	for _, p := range places(sample()) {
		if !seen[p.n.Kind] {
			seen[p.n.Kind] = true
			l = append(l, p.n)
		}
	}
	for _, kind := range []int{-1, 13, 100} {
		l = append(l, of(kind, "", 0))
	}
	return l
}

// P3.1: the sample has each Kind, and is right; so is each of its nodes, as one of its class.
func TestSampleIsRight(t *testing.T) {
	n, b := sample(), read()
	if f := Right(n); f != (api.Fault{}) {
		t.Fatalf("the sample isn't right: %v, %v", f, cut(n, f.At-100))
	}
	var kinds []string
	for _, p := range places(n) {
		name := b.names[p.n.Kind]
		kinds = append(kinds, name)
		for class := -2; class <= 8; class++ {
			if got, want := Fits(p.n, class), slices.Contains(classOf(class), name); got != want && p.name != "region" {
				t.Errorf("Fits(%v, %d) = %v", p.n, class, got)
			}
		}
	}
	for _, name := range b.names {
		if !slices.Contains(kinds, name) {
			t.Errorf("the sample has no %s", name)
		}
	}
	if f := Right(list(api.Program)); f != (api.Fault{}) {
		t.Errorf("a program without items: %v", f)
	}
}

// P3.1: whatever is changed at one node, Right and Fits say of it what the table says.
func TestRightAsTheTable(t *testing.T) {
	t.Parallel()
	n, b := sample(), read()
	all := places(n)
	count := map[api.Errno]int{}
	for i := range all {
		for _, other := range changed(all[i].n) {
			m := with(n, i, other)
			got, want := Right(m), b.fault(m, m.Kind == api.Program)
			if got != want {
				t.Fatalf("node %d as %v: Right is %v, want %v", i, other, got, want)
			}
			count[want.Kind]++
		}
	}
	if count[api.OK] < 1000 || count[api.ErrShape] < 1000 {
		t.Errorf("the changes are too much alike: %v", count)
	}
}

// P3.1: Fits asks just what the table and the class ask, of nodes of each Kind, changed.
func TestFitsAsTheTable(t *testing.T) {
	t.Parallel()
	b := read()
	for _, n := range strangers() {
		for _, other := range append(changed(n), n) {
			for class := -1; class <= 7; class++ {
				asked := slices.Contains(classOf(class), b.names[other.Kind])
				if got, want := Fits(other, class), b.fault(other, asked).Kind == api.OK; got != want {
					t.Fatalf("Fits(%v, %d) = %v", other, class, got)
				}
			}
		}
	}
}

// P3.1: the edges that are named.
func TestEdges(t *testing.T) {
	x, none, max, min := of(api.Name, "x", 0), list(api.None), int64(math.MaxInt64), int64(math.MinInt64)
	for _, c := range []struct {
		n     api.Node
		class int
		want  bool
	}{
		{list(api.Block, none), Expr, true},
		{list(api.Block), Expr, false},
		{list(api.Block, of(api.Let, "x", 0, none, none)), Expr, false},
		{list(api.Block, none, none), Expr, false},
		{list(api.Block, x, x), Expr, false},
		{list(api.Block, eval(x), x), Expr, true},
		{none, Expr, false}, {list(api.Return, none), Expr, true}, {list(api.Return), Expr, false},
		{of(api.Return, "", 0, of(api.None, "x", 0)), Expr, false}, {of(api.Return, "", 0, of(api.None, "", 1)), Expr, false},
		{of(api.Return, "", 0, list(api.None, none)), Expr, false},
		{x, Expr, true}, {of(api.Name, "x", max), Expr, true}, {of(api.Name, "x", -1), Expr, false},
		{of(api.Name, "while", 0), Expr, false}, {of(api.Name, "_", 0), Expr, false}, {of(api.Name, "", 0), Expr, false},
		{of(api.Name, "1a", 0), Expr, false}, {of(api.Name, "_1", 0), Expr, true}, {of(api.Name, "'a", 0), Expr, false},
		{of(api.Int, "", max), Expr, true}, {of(api.Int, "", -1), Expr, false}, {of(api.Int, "1", 1), Expr, false},
		{of(api.Bool, "", 1), Expr, true}, {of(api.Bool, "", 2), Expr, false}, {of(api.Bool, "", -1), Expr, false},
		{of(api.Continue, "'", 0), Expr, false}, {of(api.Continue, "'_", 0), Expr, true}, {of(api.Continue, "'fn", 0), Expr, true},
		{of(api.Continue, "'1", 0), Expr, false}, {of(api.Continue, "a", 0), Expr, false}, {of(api.Continue, "", 0), Expr, true},
		{of(api.Case, "A::", 0, list(api.TArgs)), Expr, false}, {of(api.Case, "::B", 0, list(api.TArgs)), Expr, false},
		{of(api.Case, "A::B", 0, list(api.TArgs)), Expr, true}, {of(api.Case, "A::B", 0), Expr, false},
		{of(api.PInt, "", -max), Pattern, true}, {of(api.PInt, "", min), Pattern, false}, {of(api.PInt, "", max), Pattern, true},
		{of(api.PName, "x", -1), Pattern, false}, {of(api.PBool, "", 2), Pattern, false}, {list(api.PAny, list(api.PAny)), Pattern, false},
		{list(api.TArgs), Expr, false}, {of(api.Init, "a", 0, x), Expr, false}, {list(api.Arm, list(api.PAny), x), Expr, false},
		{list(api.TInt), Type, true}, {list(api.TInt), 0, false}, {list(api.TInt), 6, false}, {list(api.TInt), math.MinInt, false},
		{of(13, "", 0), Expr, false}, {of(19, "", 0), Type, false}, {of(27, "", 0), Type, false}, {of(63, "", 0), Expr, false},
		{of(39, "", 0), Expr, false}, {of(69, "", 0), Pattern, false}, {of(75, "", 0), Pattern, false}, {of(32, "", 0), Statement, false},
	} {
		if got := Fits(c.n, c.class); got != c.want {
			t.Errorf("Fits(%v, %d) = %v", c.n, c.class, got)
		}
	}
}

// P3.1: names, regions and cases of each byte.
func TestEachByte(t *testing.T) {
	for c := range 256 {
		b := string([]byte{byte(c)})
		for _, s := range []string{b, "x" + b, b + "x", "x" + b + "x", "_" + b} {
			for _, text := range []string{s, "'" + s, s + "::x", "x::" + s} {
				for kind, what := range map[int]string{api.PName: "name", api.Continue: "maybe", api.PCase: "case"} {
					class := Pattern
					if kind == api.Continue {
						class = Expr
					}
					if got := Fits(of(kind, text, 0), class); got != isText(text, what) {
						t.Errorf("Fits of Kind %d, %q: %v", kind, text, got)
					}
				}
			}
		}
	}
}

// P3.1: a node is right 60 deep, and too deep with one more; whatever it is, up to 200 deep.
func TestTooDeep(t *testing.T) {
	for deep := 1; deep <= 200; deep++ {
		n := derefs(deep)
		if got := Fits(n, Expr); got != (deep <= 60) {
			t.Errorf("Fits of %d nodes within one another: %v", deep, got)
		}
		m := numbered(list(api.Program, function("f", n)))
		want := api.Fault{}
		if deep+3 > 60 {
			want = api.Fault{Kind: api.ErrDeep, At: first + 57}
		}
		if got := Right(m); got != want {
			t.Errorf("Right of %d nodes: %v, want %v", deep+3, got, want)
		}
	}
}

// P3.1: 20000 nodes may be, and not one more.
func TestTooMany(t *testing.T) {
	for size := 19990; size <= 20010; size++ {
		n := list(api.PCase, slices.Repeat([]api.Node{list(api.PAny)}, size-1)...)
		n.Text = "A::B"
		if got := Fits(n, Pattern); got != (size <= 20000) {
			t.Errorf("Fits of %d nodes: %v", size, got)
		}
		m := numbered(list(api.Program, function("f", of(api.Call, "g", 0, append([]api.Node{list(api.TArgs)}, slices.Repeat([]api.Node{of(api.Int, "", 2)}, size-10)...)...))))
		if Size(m) != size {
			t.Fatalf("Size is %d, not %d", Size(m), size)
		}
		want := api.Fault{}
		if size > 20000 {
			want = api.Fault{Kind: api.ErrMany, At: 20100}
		}
		if got := Right(m); got != want {
			t.Errorf("Right of %d nodes: %v, want %v", size, got, want)
		}
	}
}

// P3.1: of two errors ErrDeep is told ahead of ErrMany, that ahead of ErrShape, and of each the first in order.
func TestWhichErrorIsTold(t *testing.T) {
	wide := of(api.Call, "g", 0, append([]api.Node{list(api.TArgs)}, slices.Repeat([]api.Node{list(api.Nothing)}, 21000)...)...)
	deep, bad := derefs(61), of(api.Int, "", -1)
	for _, c := range []struct {
		about string
		l     []api.Node
		want  api.Fault
	}{
		{"deep behind many behind shape", []api.Node{eval(bad), eval(wide), deep}, api.Fault{Kind: api.ErrDeep, At: first + 2 + 21003 + 57}},
		{"many behind shape", []api.Node{eval(bad), wide}, api.Fault{Kind: api.ErrMany, At: 20100}},
		{"deep behind shape", []api.Node{eval(bad), deep}, api.Fault{Kind: api.ErrDeep, At: first + 2 + 57}},
		{"two deep", []api.Node{eval(deep), deep}, api.Fault{Kind: api.ErrDeep, At: first + 57}},
		{"two shapes", []api.Node{eval(of(api.Int, "", 1)), eval(bad), bad}, api.Fault{Kind: api.ErrShape, At: first + 3}},
		{"a wrong Kid ahead of a wrong Text in an earlier one", []api.Node{eval(of(api.Unary, "?", 0, list(api.TInt))), list(api.TInt)}, api.Fault{Kind: api.ErrShape, At: first - 1}},
		{"a part of what is in a wrong place", []api.Node{eval(list(api.TBox, list(api.PAny))), bad}, api.Fault{Kind: api.ErrShape, At: first}},
		{"right by itself in a wrong place", []api.Node{eval(list(api.Return, eval(bad))), bad}, api.Fault{Kind: api.ErrShape, At: first + 1}},
	} {
		m := numbered(list(api.Program, function("f", c.l...)))
		if got := Right(m); got != c.want {
			t.Errorf("%s: %v, want %v", c.about, got, c.want)
		}
	}
	for _, n := range places(sample()) {
		if n.n.Kind != api.Program && Right(n.n) != (api.Fault{Kind: api.ErrShape, At: n.n.At}) {
			t.Errorf("Right(%v) = %v", n.n, Right(n.n))
		}
	}
	if f := Right(api.Node{}); f != (api.Fault{Kind: api.ErrShape}) {
		t.Errorf("nothing at all: %v", f)
	}
}

// P3.1: a Name in Names and Where must be what its place says, without N and Kids, and is the one at fault.
func TestNamesInTheirPlaces(t *testing.T) {
	use := of(api.TName, "D", 0, told(api.Names, api.Name, "'a"))
	n := numbered(list(api.Program,
		of(api.Struct, "S", 0, told(api.Names, api.Name, "T"), told(api.Names, api.Name, "'a"), of(api.FieldDecl, "f", 0, use)),
		of(api.Choice, "C", 0, told(api.Names, api.Name, "T"), told(api.Names, api.Name, "'a"), of(api.CaseDecl, "A", 0, use)),
		of(api.Fn, "f", 0, told(api.Names, api.Name, "T"), told(api.Names, api.Name, "'a"), list(api.Args), use,
			list(api.Wheres, of(api.Where, "'a", 0, of(api.Name, "'b", 0))), list(api.Block, of(api.Name, "x", 0)))))
	if f := Right(n); f != (api.Fault{}) {
		t.Fatal(f)
	}
	seen := 0
	for i, p := range places(n) {
		if p.n.Kind != api.Name || p.name == "" {
			continue
		}
		seen++
		swapped := map[string]string{"name": "'a", "region": "a"}[p.name]
		for _, change := range []func(m *api.Node){
			func(m *api.Node) { m.Text = swapped }, func(m *api.Node) { m.Text = "" }, func(m *api.Node) { m.Text = "'" },
			func(m *api.Node) { m.N = 1 }, func(m *api.Node) { m.N = -1 }, func(m *api.Node) { m.Kids = []api.Node{list(api.None)} },
		} {
			m := p.n
			change(&m)
			if got, want := Right(with(n, i, m)), (api.Fault{Kind: api.ErrShape, At: p.n.At}); got != want {
				t.Errorf("%v: %v, want %v", m, got, want)
			}
		}
	}
	if seen != 10 {
		t.Errorf("%d names", seen)
	}
}

// deepNodes is trees of all sorts, right or not, up to 200 deep.
func deepNodes() []api.Node {
	l := []api.Node{{}, of(-5, "?", -7), sample(), numbered(derefs(200))}
	for deep := 1; deep <= 200; deep += 9 {
		wide := of(api.Let, "y", int64(deep)-30, of(api.Name, "a", 9), of(api.PName, "z", 5), list(99))
		l = append(l, numbered(chain(wide, list(api.None), deep)))
	}
	return l
}

// P3.1: Size, Depth and All of nodes up to 200 deep.
func TestSizeDepthAndAll(t *testing.T) {
	for _, n := range deepNodes() {
		before, all := clone(n), places(n)
		deepest := 0
		for _, p := range all {
			deepest = max(deepest, p.deep)
		}
		if Size(n) != len(all) || Depth(n) != deepest {
			t.Errorf("Size %d, Depth %d, want %d, %d", Size(n), Depth(n), len(all), deepest)
		}
		i := 0
		for x := range All(n) {
			if !reflect.DeepEqual(x, all[i].n) {
				t.Fatalf("node %d is %v, want %v", i, x, all[i].n)
			}
			i++
		}
		if i != len(all) || !reflect.DeepEqual(n, before) {
			t.Errorf("All: %d nodes, want %d", i, len(all))
		}
	}
	if Size(api.Node{}) != 1 || Depth(api.Node{}) != 1 {
		t.Error("a node alone is 1 deep, and 1")
	}
}

// P3.1: who ranges over All may stop at each node, and range anew.
func TestAllStops(t *testing.T) {
	n := sample()
	size := len(places(n))
	seq := All(n)
	for stop := 1; stop <= size; stop++ {
		i := 0
		for x := range seq {
			i++
			if x.At != 99+i {
				t.Fatalf("node %d is at %d", i, x.At)
			}
			if i == stop {
				break
			}
		}
		if i != stop {
			t.Fatalf("%d nodes, want %d", i, stop)
		}
	}
}

// P3.1: what All hands on shares no memory with n, nor with what it hands on later.
func TestAllSharesNothing(t *testing.T) {
	n := sample()
	before := clone(n)
	seq := All(n)
	for range 2 {
		i := 0
		for x := range seq {
			if want := places(before)[i].n; !reflect.DeepEqual(x, want) {
				t.Fatalf("node %d is %v, want %v", i, x, want)
			}
			scribble(x)
			i++
		}
		if !reflect.DeepEqual(n, before) {
			t.Fatal("n is written into")
		}
	}
	scribble(n)
	i := 0
	for x := range seq {
		if !reflect.DeepEqual(x, places(before)[i].n) {
			t.Fatalf("n is kept: %v", x)
		}
		i++
	}
}

// clone is a tree in new memory.
func clone(n api.Node) api.Node {
	if len(n.Kids) == 0 {
		n.Kids = nil
		return n
	}
	n.Kids = slices.Clone(n.Kids)
	for i, kid := range n.Kids {
		n.Kids[i] = clone(kid)
	}
	return n
}

// scribble writes over all Kids of a node.
func scribble(n api.Node) {
	for i, kid := range n.Kids {
		scribble(kid)
		n.Kids[i] = of(-1, "?", -1)
	}
}

// P3.1: Copy is the same, places and all, in new memory.
func TestCopy(t *testing.T) {
	for _, n := range deepNodes() {
		before := clone(n)
		c := Copy(n)
		if !reflect.DeepEqual(clone(c), before) || !Same(c, n) {
			t.Fatalf("Copy(%v) = %v", n, c)
		}
		scribble(c)
		if !reflect.DeepEqual(clone(n), before) {
			t.Fatal("the copy shares memory")
		}
	}
	room := append(make([]api.Node, 0, 10), of(api.Int, "", 1))
	c := Copy(list(api.Eval, room...))
	if grown := append(c.Kids, of(api.Int, "", 2)); len(grown) != 2 || room[:2][1].N != 0 {
		t.Error("the copy shares memory behind its Kids")
	}
}

// P3.1: Same asks for Kind, Text, N and Kids of all nodes, and not for places.
func TestSame(t *testing.T) {
	n := sample()
	for i, p := range places(n) {
		for _, other := range []api.Node{
			{Kind: p.n.Kind + 1, Text: p.n.Text, N: p.n.N, Kids: p.n.Kids},
			{Kind: p.n.Kind, Text: p.n.Text + "x", N: p.n.N, Kids: p.n.Kids},
			{Kind: p.n.Kind, Text: p.n.Text, N: p.n.N + 1, Kids: p.n.Kids},
			{Kind: p.n.Kind, Text: p.n.Text, N: p.n.N, Kids: append(slices.Clone(p.n.Kids), api.Node{})},
		} {
			m := with(n, i, other)
			if Same(n, m) || Same(m, n) || !Same(m, m) {
				t.Fatalf("node %d: %v is the same as %v", i, p.n, other)
			}
		}
		moved := p.n
		moved.At = -9
		if m := with(n, i, moved); !Same(n, m) || !Same(m, n) {
			t.Fatalf("node %d isn't the same elsewhere", i)
		}
	}
	if a, b := derefs(200), derefs(199); Same(a, b) || Same(b, a) || !Same(a, numbered(a)) {
		t.Error("200 deep")
	}
	if !Same(api.Node{Kids: []api.Node{}}, api.Node{}) {
		t.Error("an empty list and none")
	}
}

// P3.1: Bare takes the places and the locals' numbers away, and nothing else.
func TestBare(t *testing.T) {
	for _, n := range deepNodes() {
		before := clone(n)
		b := Bare(n)
		from, to := places(n), places(b)
		if len(from) != len(to) {
			t.Fatalf("%d nodes of %d", len(to), len(from))
		}
		for i, p := range from {
			want := p.n.N
			switch {
			case p.n.Kind == api.Name:
				want = 0
			case want >= 0 && (p.n.Kind == api.Let || p.n.Kind == api.PName):
				want %= 2
			}
			q := to[i].n
			if q.Kind != p.n.Kind || q.Text != p.n.Text || q.N != want || q.At != 0 || len(q.Kids) != len(p.n.Kids) {
				t.Fatalf("%v bare: %v", p.n, q)
			}
		}
		scribble(b)
		if !reflect.DeepEqual(clone(n), before) {
			t.Fatal("what is bare shares memory")
		}
	}
	for _, c := range []struct {
		kind    int
		n, want int64
	}{
		{api.Name, 7, 0}, {api.Name, 0, 0}, {api.Let, 7, 1}, {api.Let, 6, 0}, {api.Let, 1, 1}, {api.PName, 9, 1}, {api.PName, 8, 0},
		{api.Let, -1, -1}, {api.Let, -4, -4}, {api.PName, -3, -3}, {api.PName, math.MinInt64, math.MinInt64}, {api.Let, math.MaxInt64, 1},
		{api.Int, 7, 7}, {api.PInt, -3, -3}, {api.Struct, 1, 1},
	} {
		if got := Bare(of(c.kind, "x", c.n)); got.N != c.want {
			t.Errorf("Bare of Kind %d, N %d: %d, want %d", c.kind, c.n, got.N, c.want)
		}
	}
}

// P3.2: what is right, made bare, is right; each Kid has fewer nodes, and is less deep.
func TestBareIsRight(t *testing.T) {
	t.Parallel()
	n := sample()
	for i, p := range places(n) {
		for _, other := range changed(p.n) {
			if m := with(n, i, other); Right(m) == (api.Fault{}) && Right(Bare(m)) != (api.Fault{}) {
				t.Fatalf("right, but not bare: node %d as %v", i, other)
			}
		}
		for _, kid := range p.n.Kids {
			if Size(kid) >= Size(p.n) || Depth(kid) >= Depth(p.n) {
				t.Errorf("%v isn't less than %v", kid, p.n)
			}
		}
		for class := 1; class <= 5; class++ {
			if Fits(p.n, class) != Fits(Bare(p.n), class) {
				t.Errorf("%v bare is of another class", p.n)
			}
		}
	}
}

// P3.1: no function changes the node that it is given.
func TestNothingIsChanged(t *testing.T) {
	for _, n := range deepNodes() {
		before := clone(n)
		Right(n)
		Same(n, n)
		Copy(n)
		Size(n)
		Depth(n)
		Bare(n)
		for class := range 7 {
			Fits(n, class)
		}
		for range All(n) {
		}
		if !reflect.DeepEqual(clone(n), before) {
			t.Fatalf("%v is changed", n)
		}
	}
}
