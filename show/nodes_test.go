package show_test

import (
	"strings"
	"testing"

	"borrowdale/api"
	"borrowdale/parse"
	"borrowdale/show"
	"borrowdale/tree"
)

func of(kind int, text string, n int64, kids ...api.Node) api.Node {
	return api.Node{Kind: kind, Text: text, N: n, Kids: kids}
}

func list(kind int, kids ...api.Node) api.Node { return of(kind, "", 0, kids...) }

// names is a Names (or a TName's) of regions or names.
func names(l ...string) api.Node {
	n := list(api.Names)
	for _, s := range l {
		n.Kids = append(n.Kids, name(s))
	}
	return n
}

func name(s string) api.Node { return of(api.Name, s, 0) }
func num(n int64) api.Node   { return of(api.Int, "", n) }

func tname(s string, kids ...api.Node) api.Node { return of(api.TName, s, 0, kids...) }

func ref(region string, mut int64, t api.Node) api.Node { return of(api.TRef, region, mut, t) }

func unary(s string, a api.Node) api.Node     { return of(api.Unary, s, 0, a) }
func binary(s string, a, b api.Node) api.Node { return of(api.Binary, s, 0, a, b) }
func borrow(mut int64, a api.Node) api.Node   { return of(api.Borrow, "", mut, a) }
func deref(a api.Node) api.Node               { return list(api.Deref, a) }
func field(a api.Node, s string) api.Node     { return of(api.Field, s, 0, a) }
func assign(a, b api.Node) api.Node           { return list(api.Assign, a, b) }
func targs(l ...api.Node) api.Node            { return list(api.TArgs, l...) }
func call(s string, l ...api.Node) api.Node   { return of(api.Call, s, 0, with(targs(), l)...) }
func caseOf(s string, l ...api.Node) api.Node { return of(api.Case, s, 0, with(targs(), l)...) }
func build(s string, l ...api.Node) api.Node  { return of(api.Build, s, 0, with(targs(), l)...) }
func set(s string, a api.Node) api.Node       { return of(api.Init, s, 0, a) }
func leave(kind int, s string, l ...api.Node) api.Node {
	if len(l) == 0 && kind != api.Continue {
		l = []api.Node{{}}
	}
	return of(kind, s, 0, l...)
}
func loop(s string, b api.Node) api.Node            { return of(api.Loop, s, 0, b) }
func while(s string, a, b api.Node) api.Node        { return of(api.While, s, 0, a, b) }
func match(a api.Node, l ...api.Node) api.Node      { return list(api.Match, with(a, l)...) }
func arm(p, a api.Node) api.Node                    { return list(api.Arm, p, a) }
func eval(a api.Node) api.Node                      { return list(api.Eval, a) }
func let(s string, n int64, l ...api.Node) api.Node { return of(api.Let, s, n, l...) }

// choose is an If, with an else, if it has one.
func choose(a, then api.Node, l ...api.Node) api.Node {
	return list(api.If, a, then, append(l, api.Node{})[0])
}

// ends is a Block whose last is an expression.
func ends(l ...api.Node) api.Node { return list(api.Block, l...) }

// block is a Block whose last is None.
func block(l ...api.Node) api.Node { return list(api.Block, append(l, api.Node{})...) }

func with(n api.Node, l []api.Node) []api.Node { return append([]api.Node{n}, l...) }

// function is a Fn f, of a block alone.
func function(b api.Node) api.Node {
	return of(api.Fn, "f", 0, names(), names(), list(api.Args), api.Node{}, list(api.Wheres), b)
}

// face is one of the functions: what it shows, and what reads that.
type face struct {
	name string
	show func(api.Node) (string, api.Errno)
	read func(string) (api.Node, api.Fault)
}

var (
	program = face{"Program", show.Program, parse.Program}
	aType   = face{"Type", show.Type, parse.Type}
	expr    = face{"Expr", show.Expr, parse.Expr}
	pattern = face{"Pattern", show.Pattern, parse.Pattern}
)

var faces = []face{program, aType, expr, pattern}

// holds tells whether a face shows a node as a text, and whether that is parsed to the same, bare tree, which is shown alike.
func (f face) holds(t *testing.T, n api.Node, want string) {
	t.Helper()
	got, e := f.show(n)
	if e != api.OK || got != want {
		t.Fatalf("%s: %d\n%.3000s\nnot\n%.3000s", f.name, e, got, want)
	}
	f.returns(t, n, got)
}

// returns tells whether what is shown of a node is parsed to the same, bare tree, and is shown again the same.
func (f face) returns(t *testing.T, n api.Node, s string) {
	t.Helper()
	back, fault := f.read(s)
	if fault != (api.Fault{}) {
		t.Fatalf("%s: %v in\n%.3000s", f.name, fault, s)
	}
	if !tree.Same(tree.Bare(back), tree.Bare(n)) {
		t.Fatalf("%s: another tree is shown as\n%.3000s", f.name, s)
	}
	if again, e := f.show(back); e != api.OK || again != s {
		t.Fatalf("%s: %d, shown again\n%.3000s\nnot\n%.3000s", f.name, e, again, s)
	}
}

// refuses tells whether a face tells an error, and no text beside.
func (f face) refuses(t *testing.T, about string, n api.Node, want api.Errno) {
	t.Helper()
	if s, e := f.show(n); s != "" || e != want {
		t.Errorf("%s, %s: %d, %d bytes, not %d", f.name, about, e, len(s), want)
	}
}

// further is a text of lines, all but the first one further in.
func further(s string, steps int) string {
	return strings.ReplaceAll(s, "\n", "\n"+strings.Repeat("    ", steps))
}
