package parse_test

import (
	"slices"
	"strings"
	"testing"

	"borrowdale/api"
	"borrowdale/lex"
	"borrowdale/parse"
	"borrowdale/tree"
)

// face is one of the functions: what it reads, and which class its trees are of (0: programs).
type face struct {
	name  string
	read  func(string) (api.Node, api.Fault)
	start string
	class int
}

var (
	program = face{"Program", parse.Program, "program", 0}
	aType   = face{"Type", parse.Type, "type", tree.Type}
	expr    = face{"Expr", parse.Expr, "expression", tree.Expr}
	pattern = face{"Pattern", parse.Pattern, "pattern", tree.Pattern}
)

// fits is whether a tree is what the face tells.
func (f face) fits(n api.Node) bool {
	if f.class == 0 {
		return tree.Right(n) == (api.Fault{})
	}
	return tree.Fits(n, f.class)
}

// tokens is a text's tokens.
func tokens(s string) []api.Token {
	l, f := lex.Tokens(s)
	if f != (api.Fault{}) {
		panic(s)
	}
	return l
}

// placed is the same tokens where they stand once they are joined.
func placed(l []api.Token) ([]api.Token, string) {
	s := lex.Join(l)
	return tokens(s), s
}

// holds tells whether a face tells a fault of a source, and what goes with it.
func holds(t *testing.T, f face, s string, want api.Fault) {
	t.Helper()
	n, got := f.read(s)
	if got != want {
		t.Fatalf("%s(%.200q): %v, not %v", f.name, s, got, want)
	}
	if want != (api.Fault{}) && text(n) != "None" {
		t.Fatalf("%s(%.200q): a node beside a fault", f.name, s)
	}
	if want == (api.Fault{}) && !f.fits(n) {
		t.Fatalf("%s(%.200q): %.200s doesn't fit", f.name, s, text(n))
	}
}

// search goes through all texts of the words that some source begins with, and through these with one word more.
type search struct {
	*testing.T
	face
	words []api.Token
	chart *chart
	seen  int
}

func (s *search) from(l []api.Token, more int) {
	at, source := placed(l)
	want := api.Fault{}
	if !s.chart.whole() {
		want = api.Fault{Kind: api.ErrWant, At: len(source)}
	}
	holds(s.T, s.face, source, want)
	s.seen++
	if more == 0 {
		return
	}
	for _, w := range s.words {
		next := append(slices.Clip(at), w)
		if s.chart.push(w) {
			s.from(next, more-1)
			s.chart.pop()
			continue
		}
		_, source := placed(append(next, s.words[0]))
		holds(s.T, s.face, source, api.Fault{Kind: s.chart.stuck(), At: len(lex.Join(at)) + min(len(at), 1)})
	}
}

// P4.1, P4.2: of all short texts, the fault is where the grammar says, and a tree without one fits.
func TestFaultsOfShortTexts(t *testing.T) {
	t.Parallel()
	g := read()
	for _, c := range []struct {
		face
		begin, words string
		more         int
	}{
		{program, "", "fn copy struct choice f ( { ) } < [ , 'a : int", 5},
		{program, "struct S", "{ } [ ] < > , 'a T : int fn", 7},
		{program, "copy choice S", "{ } ( ) [ ] , T int :", 6},
		{program, "fn f", "( ) [ ] < > , 'a T { -> :", 6},
		{program, "fn f(", "x mut : int , ) { } _ 'a", 7},
		{program, "fn f() -> int", "where { } 'a : , -> T", 8},
		{program, "fn f() {", "let mut x : int = 1 ; } _ &", 6},
		{program, "fn f() { if x {}", "else if { } ; + x - . (", 4},
		{program, "fn f() {", "'a : loop while { } ; x", 6},
		{program, "fn f() {", "{ } ; x . + = ( )", 5},
		{program, "fn f() {", "match x { } => , ; _ | A ::", 7},
		{aType, "", "& && 'a mut int bool unit Box Vec T [ ] < > , _ 1 (", 4},
		{aType, "", "& T [ ] < > , 'a Box", 6},
		{pattern, "", "_ mut x true false 1 - :: ( ) , 'a fn Box & [", 5},
		{pattern, "A::", "B ( ) , A :: _", 7},
		{expr, "", "1 x true ( ) { } [ ] , ; : :: . => -> = == < + - * ! & && || % 'a if else while loop break continue return match let mut fn _ int Box false", 3},
		{expr, "", "a < == && || + * = - break", 6},
		{expr, "", "break return 'a : loop { } x = - ;", 5},
		{expr, "continue", "'a : loop { } ;", 4},
		{expr, "", "( ) a , = . 1 &", 6},
		{expr, "", "a [ ] ( ) { } :: , : int", 6},
		{expr, "if", "a { } : ( ) else if ; return", 6},
		{expr, "if x = break", "a [ ] { } : ( 'a loop", 5},
		{expr, "while a", "[ int ] { } ( )", 8},
		{expr, "match x {", "A :: ( ) => a { } , _ - 1", 6},
		{expr, "'a", ": loop while { } x 'b", 6},
		{expr, "&", "& && mut a - * !", 5},
		{expr, "if a {} else", "if { } a else", 6},
		{expr, "(match x {}", ") . + a ( {", 4},
	} {
		s := search{T: t, face: c.face, chart: g.chartOf(c.start)}
		for _, w := range strings.Fields(c.words) {
			if w != "|" {
				s.words = append(s.words, tokens(w)...)
			}
		}
		begin := tokens(c.begin)
		for _, w := range begin {
			if !s.chart.push(w) {
				t.Fatalf("%q: no source begins so", c.begin)
			}
		}
		s.from(begin, c.more)
		t.Logf("%s, %q, %q: %d texts", c.name, c.begin, c.words, s.seen)
	}
}

// words is a token of each kind, keyword and sign.
const words = "struct choice copy fn let mut if else while loop break continue return match true false where Box int _ x 7 'a ( ) { } [ ] , ; : :: . -> => = == < > + * ! & && ||"

// P4.1, P4.2: of whole sources with a token more, less, or cut off, the fault is where the grammar says.
func TestFaultsOfChangedSources(t *testing.T) {
	t.Parallel()
	g, more := read(), tokens(words)
	for _, c := range []struct {
		face
		rows []row
	}{{program, programRows()}, {aType, typeRows()}, {expr, exprRows()[60:]}, {pattern, patternRows()}} {
		chart := g.chartOf(c.start)
		try := func(l ...api.Token) {
			at, source := placed(l)
			holds(t, c.face, source, chart.fault(at, len(source)))
		}
		for _, r := range c.rows {
			l := tokens(r.source)
			try(l...)
			for i := range l {
				try(l[:i]...)
				try(slices.Delete(slices.Clone(l), i, i+1)...)
			}
			if len(l) < 12 && c.class == tree.Expr {
				continue
			}
			for i := range len(l) + 1 {
				for _, w := range more {
					try(slices.Insert(slices.Clone(l), i, w)...)
				}
			}
		}
	}
}
