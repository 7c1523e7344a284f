package parse_test

import (
	"math/rand"
	"strings"
	"testing"

	"borrowdale/api"
	"borrowdale/lex"
	"borrowdale/parse"
	"borrowdale/tree"
)

// P4.1, P4.2: each rule of the chapter.
func TestTrees(t *testing.T) {
	for _, c := range []struct {
		face
		rows []row
	}{{program, programRows()}, {aType, typeRows()}, {expr, exprRows()}, {pattern, patternRows()}} {
		for _, r := range c.rows {
			n, f := c.read(r.source)
			if got := text(n); f != (api.Fault{}) || got != r.want {
				t.Errorf("%s(%q): %v\n%s, not\n%s", c.name, r.source, f, got, r.want)
			}
			if !c.fits(n) {
				t.Errorf("%s(%q) doesn't fit", c.name, r.source)
			}
		}
	}
}

// moved is a tree that stands so many bytes further on. What has no token of its own stays at 0.
func moved(n api.Node, by int) api.Node {
	hollow := n.Kind == api.None || n.Kind == api.Names || n.Kind == api.TArgs || n.Kind == api.Wheres
	if !hollow || len(n.Kids) > 0 {
		n.At += by
	}
	kids := n.Kids
	n.Kids = nil
	for _, kid := range kids {
		n.Kids = append(n.Kids, moved(kid, by))
	}
	return n
}

// P4.1: what is a type, an expression, or a pattern is the same within a program, wherever one stands.
func TestTreesWithinPrograms(t *testing.T) {
	for _, c := range []struct {
		face
		rows        []row
		begin, ends string
		way         []int // of which Kid, of which Kid, and so on
	}{
		{aType, typeRows(), "struct S { a: ", "}", []int{0, 2, 0}},
		{aType, typeRows(), "choice C { A(int, ", ") }", []int{0, 2, 1}},
		{aType, typeRows(), "fn f(mut x: ", ") {}", []int{0, 2, 0, 0}},
		{aType, typeRows(), "fn f() -> ", " where 'a: 'b {}", []int{0, 3}},
		{aType, typeRows(), "fn f() { let x: ", "; }", []int{0, 5, 0, 0}},
		{aType, typeRows(), "fn f() { g[", "]() }", []int{0, 5, 0, 0, 0}},
		{aType, typeRows(), "fn f() { G::A[", ",] }", []int{0, 5, 0, 0, 0}},
		{aType, typeRows(), "fn f() { S[", "] {} }", []int{0, 5, 0, 0, 0}},
		{expr, exprRows(), "fn f() { let x = ", "; }", []int{0, 5, 0, 1}},
		{expr, exprRows(), "fn f() { (", ") }", []int{0, 5, 0}},
		{expr, exprRows(), "fn f() { g(1, ", ") }", []int{0, 5, 0, 2}},
		{expr, exprRows(), "fn f() { C::A(", ",) }", []int{0, 5, 0, 1}},
		{expr, exprRows(), "fn f() { S { a: ", "} }", []int{0, 5, 0, 1, 0}},
		{expr, exprRows(), "fn f() { match x { _ => ", ", } }", []int{0, 5, 0, 1, 1}},
		{expr, exprRows(), "fn f() { if (", ") {} }", []int{0, 5, 0, 0}},
		{expr, exprRows(), "fn f() { while x { (", ") } }", []int{0, 5, 0, 1, 0}},
		{expr, exprRows(), "fn f() { y = ", " }", []int{0, 5, 0, 1}},
		{expr, exprRows(), "fn f() { return ", "; }", []int{0, 5, 0, 0, 0}},
		{expr, exprRows(), "fn f() { break 'a ", "; }", []int{0, 5, 0, 0, 0}},
		{pattern, patternRows(), "fn f() { match x { ", " => 1 } }", []int{0, 5, 0, 1, 0}},
		{pattern, patternRows(), "fn f() { match x { a => 1, D::E(mut b, ", ",) => 2 } }", []int{0, 5, 0, 2, 0, 1}},
	} {
		for _, r := range c.rows {
			s := c.begin + r.source + c.ends
			n, f := parse.Program(s)
			if f != (api.Fault{}) {
				t.Errorf("%q: %v", s, f)
				continue
			}
			alone, _ := c.read(r.source)
			for _, k := range c.way {
				n = n.Kids[k]
			}
			if got, want := text(n), text(moved(alone, len(c.begin))); got != want {
				t.Errorf("%q:\n%s, not\n%s", s, got, want)
			}
		}
	}
}

// want is a source, and its fault.
type want struct {
	source string
	kind   api.Errno
	at     int
}

func checkFaults(t *testing.T, f face, l []want) {
	t.Helper()
	for _, w := range l {
		holds(t, f, w.source, api.Fault{Kind: w.kind, At: w.at})
	}
}

// P4.1
func TestFaultsOfPrograms(t *testing.T) {
	const none, lacks = api.OK, api.ErrWant
	checkFaults(t, program, []want{
		{"fn", lacks, 2}, {"fn  ", lacks, 4}, {"fn // f", lacks, 7}, {"x", lacks, 0}, {"fn f() {} x", lacks, 10}, {"fn f() {} ;", lacks, 10}, {"fn f() {}}", lacks, 9},
		{"copy", lacks, 4}, {"copy fn f() {}", lacks, 5}, {"copy copy struct S {}", lacks, 5}, {"struct", lacks, 6}, {"struct struct {}", lacks, 7}, {"struct _ {}", lacks, 7}, {"struct int {}", lacks, 7}, {"struct 'a {}", lacks, 7},
		{"struct S[] {}", lacks, 9}, {"struct S[,] {}", lacks, 9}, {"struct S[T,,] {}", lacks, 11}, {"struct S['a] {}", lacks, 9}, {"struct S[T U] {}", lacks, 11}, {"struct S[T] [U] {}", lacks, 12},
		{"struct S<> {}", lacks, 9}, {"struct S<'a,> {}", lacks, 12}, {"struct S<T> {}", lacks, 9}, {"struct S<'a 'b> {}", lacks, 12}, {"struct S<'a>[T] {}", lacks, 12}, {"struct S<'a>= {}", lacks, 11},
		{"struct S {,}", lacks, 10}, {"struct S { a: int,, }", lacks, 18}, {"struct S { a int }", lacks, 13}, {"struct S { a: }", lacks, 14}, {"struct S { a: int b: int }", lacks, 18}, {"struct S { a: int; }", lacks, 17}, {"struct S { A(int) }", lacks, 12}, {"struct S { a: int", lacks, 17}, {"struct S ()", lacks, 9}, {"struct S { mut a: int }", lacks, 11},
		{"choice C { A(,) }", lacks, 13}, {"choice C { A: int }", lacks, 12}, {"choice C { A(int int) }", lacks, 17}, {"choice C { A B }", lacks, 13}, {"choice C { _ }", lacks, 11}, {"choice C { A(a: int) }", lacks, 14},
		{"fn f", lacks, 4}, {"fn f {}", lacks, 5}, {"fn f(x) {}", lacks, 6}, {"fn f(mut) {}", lacks, 8}, {"fn f(,) {}", lacks, 5}, {"fn f(x: int,,) {}", lacks, 12}, {"fn f(x: mut int) {}", lacks, 8}, {"fn f(_: int) {}", lacks, 5}, {"fn f() int {}", lacks, 7}, {"fn f() -> {}", lacks, 10}, {"fn f();", lacks, 6}, {"fn f()", lacks, 6}, {"fn f() = 1", lacks, 7},
		{"fn f() where {}", lacks, 13}, {"fn f() where 'a {}", lacks, 16}, {"fn f() where 'a: b {}", lacks, 17}, {"fn f() where 'a: 'b, {}", lacks, 21}, {"fn f() where 'a: 'b 'c: 'd {}", lacks, 20}, {"fn f() where 'a: 'b -> int {}", lacks, 20}, {"fn f()<'a> {}", lacks, 6},
		{"fn f() {", lacks, 8}, {"fn f() { ; }", lacks, 9}, {"fn f() { a b }", lacks, 11}, {"fn f() { a; b", lacks, 13}, {"fn f() { a;; }", lacks, 11}, {"fn f() { a, b }", lacks, 10}, {"fn f() { if a {};; }", lacks, 17},
		{"fn f() { let }", lacks, 13}, {"fn f() { let x }", lacks, 15}, {"fn f() { let _ = 1; }", lacks, 13}, {"fn f() { let mut mut x; }", lacks, 17}, {"fn f() { let x: = 1; }", lacks, 16}, {"fn f() { let x = ; }", lacks, 17}, {"fn f() { let x = 1 }", lacks, 19}, {"fn f() { let x: T<'a>= 1; }", lacks, 20}, {"fn f() { let C::A = 1; }", lacks, 14},
		{"fn f() { if a {} + b }", lacks, 17}, {"fn f() { loop {}.a }", lacks, 16}, {"fn f() { {} = a; }", lacks, 12}, {"fn f() { 'a: loop {} || b }", lacks, 21}, {"fn f() { match a {} == b }", lacks, 20}, {"fn f() { while a {} / b }", lacks, 20}, {"fn f() { 'a: if b {} }", lacks, 13}, {"fn f() { 'a: {} }", lacks, 13}, {"fn f() { 'a }", lacks, 12}, {"fn f() { if a {} else b }", lacks, 22}, {"fn f() { if a {}; else {} }", lacks, 18}, {"fn f() { else {} }", lacks, 9},
		{"fn f() { a < b < c }", lacks, 15}, {"fn f() { a == b != c; }", lacks, 16}, {"fn f() { if S { a: 1 } {} }", lacks, 17}, {"fn f() { if S {} {} }", none, 0}, {"fn f() { while S[T] {} }", lacks, 20}, {"fn f() { match S { a: 1 } {} }", lacks, 20}, {"fn f() { let x = if a = S { b: 1 } {}; }", lacks, 29},
		{"fn f() { break 'a: x; }", lacks, 19}, {"fn f() { break 'a 'b; }", lacks, 20}, {"fn f() { continue a; }", lacks, 18}, {"fn f() { continue 'a: loop {} }", lacks, 20}, {"fn f() { return let x; }", lacks, 16}, {"fn f() { if break {a: 1} {} }", lacks, 20}, {"fn f() { break _; }", lacks, 15},
		{"fn f() { struct S {} }", lacks, 9}, {"fn f() { fn g() {} }", lacks, 9}, {"fn f() { mut }", lacks, 9}, {"fn f() { _ }", lacks, 9}, {"fn f() { Box }", lacks, 9}, {"fn f() { Vec::new() }", lacks, 9}, {"fn f() { int }", lacks, 9},
	})
}

// P4.1
func TestFaultsOfTypes(t *testing.T) {
	const lacks, rest = api.ErrWant, api.ErrRest
	checkFaults(t, aType, []want{
		{"", lacks, 0}, {"  ", lacks, 2}, {"&", lacks, 1}, {"&& ", lacks, 3}, {"&'a", lacks, 3}, {"&mut", lacks, 4}, {"&mut mut int", lacks, 5}, {"&mut 'a int", lacks, 5}, {"&'a 'b int", lacks, 4}, {"mut int", lacks, 0}, {"'a int", lacks, 0},
		{"Box", lacks, 3}, {"Box[]", lacks, 4}, {"Box[int,]", lacks, 7}, {"Box[int", lacks, 7}, {"Box(int)", lacks, 3}, {"Vec[int, int]", lacks, 7}, {"Vec<'a>", lacks, 3},
		{"T[]", lacks, 2}, {"T[,]", lacks, 2}, {"T[int", lacks, 5}, {"T[int,,]", lacks, 6}, {"T['a]", lacks, 2}, {"T<>", lacks, 2}, {"T<'a,>", lacks, 5}, {"T<int>", lacks, 2}, {"T<'a", lacks, 4}, {"()", lacks, 0}, {"(int)", lacks, 0}, {"1", lacks, 0}, {"_", lacks, 0}, {"let", lacks, 0}, {"fn", lacks, 0}, {"true", lacks, 0},
		{"int int", rest, 4}, {"int[int]", rest, 3}, {"int<'a>", rest, 3}, {"T[int][int]", rest, 6}, {"T<'a>[int]", rest, 5}, {"T<'a><'b>", rest, 5}, {"Box[int]<'a>", rest, 8}, {"T::A", rest, 1}, {"T;", rest, 1}, {"T T #", api.ErrToken, 4}, {"&int &int", rest, 5}, {"T<'a>=", lacks, 4},
	})
}

// P4.1
func TestFaultsOfExprs(t *testing.T) {
	const lacks, rest = api.ErrWant, api.ErrRest
	checkFaults(t, expr, []want{
		{"", lacks, 0}, {"\n//", lacks, 3}, {"(", lacks, 1}, {"(a", lacks, 2}, {"(a b)", lacks, 3}, {"(a, b)", lacks, 2}, {"(,)", lacks, 1}, {")", lacks, 0}, {"a +", lacks, 3}, {"a + )", lacks, 4}, {"a + + b", lacks, 4}, {"+a", lacks, 0}, {"a =", lacks, 3}, {"a = = b", lacks, 4}, {"a.", lacks, 2}, {"a.1", lacks, 2}, {"a.let", lacks, 2}, {"a._", lacks, 2}, {"-", lacks, 1}, {"&mut", lacks, 4}, {"&mut mut a", lacks, 5}, {"&'a b", lacks, 4}, {"&'a: int", lacks, 5}, {"-mut a", lacks, 1}, {"_", lacks, 0}, {"Box", lacks, 0}, {"let", lacks, 0}, {"let x;", lacks, 0}, {"else", lacks, 0}, {"mut a", lacks, 0}, {";", lacks, 0},
		{"a < b < c", rest, 6}, {"a < b == (c > d)", rest, 6}, {"a == b == c", rest, 7}, {"a < b + c >= d", rest, 10}, {"a || b < c < d", rest, 11}, {"x = a < b < c", rest, 10}, {"(a < b < c)", lacks, 7}, {"f(a < b < c)", lacks, 8}, {"-a < b < c", rest, 7}, {"a < break b < c < d", rest, 16}, {"a && b < c != d && e", rest, 11},
		{"a b", rest, 2}, {"a 1", rest, 2}, {"a;", rest, 1}, {"a }", rest, 2}, {"a, b", rest, 1}, {"a : b", rest, 2}, {"a => b", rest, 2}, {"a & b", rest, 2}, {"a ! b", rest, 2}, {"f()()", rest, 3}, {"f() {}", rest, 4}, {"S {} {}", rest, 5}, {"C::A {}", rest, 5}, {"C::A::B", rest, 4}, {"(a)(b)", rest, 3}, {"(f)[T]", rest, 3}, {"1 {}", rest, 2}, {"a.b(c)", rest, 3}, {"a.b {}", rest, 4}, {"true()", rest, 4}, {"if a {} b", rest, 8}, {"if a {};", rest, 7}, {"loop {} {}", rest, 8}, {"{} {}", rest, 3}, {"continue 'a 'b", rest, 12}, {"continue 'a: loop {}", rest, 11}, {"continue a", rest, 9}, {"break _", rest, 6}, {"return else", rest, 7}, {"() ()", rest, 3},
		{"f(", lacks, 2}, {"f(,)", lacks, 2}, {"f(a,,)", lacks, 4}, {"f(a b)", lacks, 4}, {"f(a;)", lacks, 3}, {"f(a: b)", lacks, 3}, {"f(let)", lacks, 2},
		{"f[", lacks, 2}, {"f[]()", lacks, 2}, {"f[,]()", lacks, 2}, {"f[int", lacks, 5}, {"f[int]", lacks, 6}, {"f[int] + 1", lacks, 7}, {"f[int].a", lacks, 6}, {"f[1]", lacks, 2}, {"f[int][int]()", lacks, 6}, {"f[int]::A", lacks, 6},
		{"S {", lacks, 3}, {"S {,}", lacks, 3}, {"S { a }", lacks, 6}, {"S { a: }", lacks, 7}, {"S { a: 1 b: 2 }", lacks, 9}, {"S { a: 1; }", lacks, 8}, {"S { a: 1,, }", lacks, 9}, {"S { 'a: loop {} }", lacks, 4}, {"S { a: 1", lacks, 8}, {"S { a = 1 }", lacks, 6}, {"S { if: 1 }", lacks, 4},
		{"C::", lacks, 3}, {"C::_", lacks, 3}, {"C::if", lacks, 3}, {"C::1", lacks, 3}, {"C::A[", lacks, 5}, {"C::A[]", lacks, 5}, {"C::A(", lacks, 5}, {"C::A(,)", lacks, 5}, {"C : A", rest, 2},
		{"if", lacks, 2}, {"if {}", lacks, 5}, {"if a", lacks, 4}, {"if a b", lacks, 5}, {"if a {} else", lacks, 12}, {"if a {} else a", lacks, 13}, {"if a {} else while b {}", lacks, 13}, {"if a {} else 'a: loop {}", lacks, 13}, {"if (a) b", lacks, 7}, {"if a; {}", lacks, 4}, {"if let x = a {}", lacks, 3},
		{"if S { a: 1 } {}", lacks, 8}, {"if S {} {}", rest, 8}, {"if a == S { b: 1 } {}", lacks, 13}, {"if -S { a: 1 } {}", lacks, 9}, {"if S[int] {} {}", lacks, 10}, {"while S { a: 1 }.b {}", lacks, 11}, {"match S { a: 1 } {}", lacks, 11}, {"if return S { a: 1 } {}", lacks, 15}, {"if if a {} else {} S { b: 1 } {}", lacks, 19}, {"if break { a: 1 } {}", lacks, 12}, {"if a {} else if S { a: 1 } {}", lacks, 21}, {"if !{} {} {}", rest, 10},
		{"while", lacks, 5}, {"while {}", lacks, 8}, {"while a {} else {}", rest, 11}, {"loop", lacks, 4}, {"loop a {}", lacks, 5}, {"'a", lacks, 2}, {"'a loop {}", lacks, 3}, {"'a:", lacks, 3}, {"'a: {}", lacks, 4}, {"'a: if b {}", lacks, 4}, {"'a: match b {}", lacks, 4}, {"'a: 'b: loop {}", lacks, 4}, {"break 'a:", lacks, 9}, {"break 'a: b", lacks, 10}, {"break 'a 'b", lacks, 11}, {"break 'a 'b c", lacks, 12}, {"break 'a: 'b: loop {}", lacks, 10}, {"return 'a", lacks, 9}, {"return 'a b", lacks, 10},
		{"match", lacks, 5}, {"match a", lacks, 7}, {"match a {", lacks, 9}, {"match {}", lacks, 8}, {"match a { _ }", lacks, 12}, {"match a { _ => }", lacks, 15}, {"match a { _ => b; }", lacks, 16}, {"match a { _ => b c => d }", lacks, 17}, {"match a { _ => {} c => d }", lacks, 18}, {"match a {,}", lacks, 9}, {"match a { _ => b,, }", lacks, 17}, {"match a { b + c => d }", lacks, 12}, {"match a { b -> c }", lacks, 12}, {"match a { () => b }", lacks, 10}, {"match a { _ => let b; }", lacks, 15}, {"match a { b | c => d }", api.ErrToken, 12},
		{"{", lacks, 1}, {"{ a", lacks, 3}, {"{ let }", lacks, 6}, {"{ a b }", lacks, 4}, {"{;}", lacks, 1}, {"{ a: b }", lacks, 3}, {"{ a, b }", lacks, 3}, {"{ {} + a }", lacks, 5}, {"{ if a {} else b }", lacks, 15},
	})
}

// P4.1
func TestFaultsOfPatterns(t *testing.T) {
	const lacks, rest = api.ErrWant, api.ErrRest
	checkFaults(t, pattern, []want{
		{"", lacks, 0}, {"\t", lacks, 1}, {"mut", lacks, 3}, {"mut _", lacks, 4}, {"mut mut a", lacks, 4}, {"mut 1", lacks, 4}, {"mut A::B", rest, 5}, {"-", lacks, 1}, {"-a", lacks, 1}, {"--1", lacks, 1}, {"-true", lacks, 1}, {"&a", lacks, 0}, {"(a)", lacks, 0}, {"()", lacks, 0}, {"'a", lacks, 0}, {"let", lacks, 0}, {"Box", lacks, 0}, {"int", lacks, 0}, {"{}", lacks, 0},
		{"A::", lacks, 3}, {"A::_", lacks, 3}, {"A::mut", lacks, 3}, {"A::B(", lacks, 5}, {"A::B(,)", lacks, 5}, {"A::B(_", lacks, 6}, {"A::B(_,,)", lacks, 7}, {"A::B(a b)", lacks, 7}, {"A::B(a + b)", lacks, 7}, {"A::B(mut)", lacks, 8},
		{"a b", rest, 2}, {"_ _", rest, 2}, {"_a _", rest, 3}, {"1 2", rest, 2}, {"a(b)", rest, 1}, {"A::B::C", rest, 4}, {"A::B[int]", rest, 4}, {"A::B()()", rest, 6}, {"a => b", rest, 2}, {"1 + 2", rest, 2}, {"true::A", rest, 4}, {"A { b: c }", rest, 2}, {"_::A", rest, 1}, {"a.b", rest, 1},
	})
}

// P4.1: layer 2's faults are told ahead of all others, by all functions.
func TestFaultsOfTokensFirst(t *testing.T) {
	long := strings.Repeat(" ", 65536)
	for _, w := range []want{
		{"#", api.ErrToken, 0}, {"a b c #", api.ErrToken, 6}, {"fn fn |", api.ErrToken, 6}, {") /*", api.ErrOpen, 2}, {"1 2 9223372036854775808", api.ErrBig, 4}, {"a b \x00", api.ErrByte, 4}, {"# \r", api.ErrByte, 2}, {"-9223372036854775808", api.ErrBig, 1}, {"9223372036854775808", api.ErrBig, 0}, {"(" + long, api.ErrByte, 65536}, {long + " ", api.ErrByte, 65536}, {strings.Repeat("-", 70) + "a '", api.ErrToken, 72},
	} {
		for _, f := range []face{program, aType, expr, pattern} {
			checkFaults(t, f, []want{w})
		}
	}
}

// P4.1: of any text at all, some answer; where layer 2 tells a fault, that one.
func TestAnyText(t *testing.T) {
	rnd := rand.New(rand.NewSource(4))
	const letters = "ax1_'\"#/*&|=<>:;,.-+!%(){}[] \n\t\x00\xff"
	for range 20000 {
		b := make([]byte, rnd.Intn(9))
		for i := range b {
			b[i] = letters[rnd.Intn(len(letters))]
		}
		for _, f := range []face{program, aType, expr, pattern} {
			_, want := lex.Tokens(string(b))
			n, got := f.read(string(b))
			if want != (api.Fault{}) && got != want {
				t.Fatalf("%s(%q): %v, not %v", f.name, b, got, want)
			}
			if right := got == (api.Fault{}); right != f.fits(n) || !right && text(n) != "None" {
				t.Fatalf("%s(%q): %v, %s", f.name, b, got, text(n))
			}
		}
	}
}

// around is a text between others that stand there so many times.
func around(begin, s, end string, times int) string {
	return strings.Repeat(begin, times) + s + strings.Repeat(end, times)
}

// P4.1, P4.2: a tree 60 deep, and one 61 deep.
func TestDeep(t *testing.T) {
	for _, c := range []struct {
		face
		begin, s, end string
		most          int // how many times it may be
		at            int // of the node that is too deep, with one more
	}{
		{expr, "-", "a", "", 59, 60},
		{expr, "!", "a", "", 59, 60},
		{expr, "*", "a", "", 59, 60},
		{expr, "& ", "a", "", 59, 120},
		{expr, "&mut ", "1", "", 59, 300},
		{expr, "-(", "a", ")", 59, 120},
		{expr, "", "a", ".b", 59, 0},
		{expr, "", "a", " + a", 59, 0},
		{expr, "a || (", "a", ")", 59, 354},
		{expr, "a = ", "a", "", 59, 236},
		{expr, "{", "a", "}", 59, 60},
		{expr, "{", "", "}", 59, 0},
		{expr, "{", "a;", "}", 58, 59},
		{expr, "{", "let a;", "}", 58, 0},
		{expr, "{", "let a = 1;", "}", 58, 0},
		{expr, "f(", "1", ")", 59, 0},
		{expr, "f(", "", ")", 59, 0},
		{expr, "A::B(", "A::B[int]", ")", 57, 295},
		{expr, "S { a: ", "1", " }", 29, 210},
		{expr, "if a {", "1", "}", 29, 180},
		{expr, "if ", "a", " {}", 58, 0},
		{expr, "loop {", "1", "}", 29, 180},
		{expr, "match a { _ => ", "1", "}", 29, 445},
		{expr, "break ", "break a", "", 58, 360},
		{expr, "return ", "return", "", 58, 0},
		{aType, "&", "int", "", 59, 60},
		{aType, "& ", "T", "", 58, 0},
		{aType, "&", "T<'a>", "", 57, 60},
		{aType, "Box[", "int", "]", 59, 240},
		{aType, "T[", "int", "]", 59, 0},
		{aType, "Vec[", "T", "]", 58, 0},
		{pattern, "A::B(", "_", ")", 59, 300},
		{pattern, "A::B(", "-1", ")", 59, 300},
	} {
		holds(t, c.face, around(c.begin, c.s, c.end, c.most), api.Fault{})
		holds(t, c.face, around(c.begin, c.s, c.end, c.most+1), api.Fault{Kind: api.ErrDeep, At: c.at})
		if _, f := c.read(around(c.begin, c.s, c.end, 2000)); f.Kind != api.ErrDeep {
			t.Errorf("%q, far deeper: %v", c.begin, f)
		}
	}
	holds(t, program, "fn f() {"+around("-", "a", "", 56)+"}", api.Fault{})
	holds(t, program, "fn f() {"+around("-", "a", "", 57)+"}", api.Fault{Kind: api.ErrDeep, At: 65})
	holds(t, program, "fn f(x: "+around("&", "int", "", 55)+") {}", api.Fault{})
	holds(t, program, "fn f(x: "+around("&", "int", "", 56)+") {}", api.Fault{Kind: api.ErrDeep, At: 64})
	holds(t, program, "fn f() {"+around("-", "a", "", 57)+"; "+around("-", "a", "", 60)+"}", api.Fault{Kind: api.ErrDeep, At: 64})
}

// P4.1: what makes no node isn't counted as deep.
func TestParensAreNotDeep(t *testing.T) {
	for _, times := range []int{60, 61, 1000, 32767} {
		n, f := parse.Expr(around("(", "ab", ")", times))
		if f != (api.Fault{}) || text(n) != text(api.Node{Kind: api.Name, Text: "ab", At: times}) {
			t.Errorf("%d: %v, %s", times, f, text(n))
		}
	}
}

// P4.1: whatever begins very many times, the fault is told.
func TestVeryDeep(t *testing.T) {
	deep := []face{expr, aType, pattern}
	for i, l := range [][]string{
		{"(", "-", "!", "*", "{", "f(", "a::b(", "a=", "a||(", "if ", "if a{}else ", "if a{", "while ", "'a:loop{", "match ", "match a{_=>", "return(", "break ", "S{a:", "{let a=", "{a;", "&&", "&mut "},
		{"&", "&'a ", "&& ", "Box[", "Vec[", "T[", "T[int,"},
		{"A::B(", "A::B(_,"},
	} {
		for _, s := range l {
			all := strings.Repeat(s, 65536/len(s))
			n, f := deep[i].read(all)
			if f.Kind != api.ErrWant && s != "break " || s == "break " && f.Kind != api.ErrDeep || text(n) != "None" {
				t.Errorf("%q: %v", s, f)
			}
		}
	}
	for _, w := range []want{
		{around("-", "a", "", 65535), api.ErrDeep, 60}, {around("&", "a", "", 65535), api.ErrDeep, 60}, {around("", "a", "+a", 32767), api.ErrDeep, 0}, {around("{", "", "}", 32768), api.ErrDeep, 60}, {around("a=", "a", "", 32767), api.ErrDeep, 118},
		{around("(", "a", ")", 32766) + " b", api.ErrRest, 65534}, {around("-", "", "", 65536), api.ErrWant, 65536}, {around("-", "-", "", 65533) + "a.", api.ErrWant, 65536},
	} {
		holds(t, expr, w.source, api.Fault{Kind: w.kind, At: w.at})
	}
}

// P4.1, P4.2: 20000 nodes, and 20001.
func TestMany(t *testing.T) {
	for _, c := range []struct {
		face
		begin, s, end string
		most, at      int
	}{
		{expr, "f(", "1,", ")", 19998, 2 + 2*19998},
		{expr, "A::B(", "a,", ")", 19998, 5 + 2*19998},
		{expr, "{", "a;", "}", 9999, 1 + 2*9999},
		{expr, "{", "a;", "1}", 9999, 1 + 2*9999},
		{expr, "{(", "a);(", "1)}", 9999, 2 + 4*9999},
		{pattern, "A::B(", "_,", ")", 19999, 5 + 2*19999},
		{pattern, "A::B(", "-1,", ")", 19999, 5 + 3*19999},
		{aType, "T[", "T,", "bool,]", 9998, 2 + 2*9999},
		{program, "choice C{", "A,", "}", 19996, 9 + 2*19996},
		{program, "choice C{A(", "U,", ")}", 9997, 0},
		{program, "choice C<", "'a,", "'b>{}", 19995, 9 + 3*19996},
	} {
		source := func(times int) string { return c.begin + strings.Repeat(c.s, times) + c.end }
		holds(t, c.face, source(c.most), api.Fault{})
		if n, _ := c.read(source(c.most)); tree.Size(n) < 19999 {
			t.Errorf("%q: %d nodes", c.begin, tree.Size(n))
		}
		holds(t, c.face, source(c.most+1), api.Fault{Kind: api.ErrMany, At: c.at})
	}
}

// P4.1: of several faults, what stands wrong is told first, then what is left over, then what is too deep, then what is too much.
func TestWhichFaultIsTold(t *testing.T) {
	many, deep := strings.Repeat("1,", 20001), around("-", "a", "", 70)
	checkFaults(t, expr, []want{
		{"f(" + many + deep + ")", api.ErrDeep, 2 + 40002 + 59},
		{"f(" + deep + "," + many + ")", api.ErrDeep, 61},
		{"f(" + many, api.ErrWant, 2 + 40002},
		{"f(" + many + ";", api.ErrWant, 2 + 40002},
		{"f(" + many + ") b", api.ErrRest, 2 + 40002 + 2},
		{"f(" + many + deep + ") b", api.ErrRest, 2 + 40002 + 73},
		{deep + " b", api.ErrRest, 72},
		{deep + " +", api.ErrWant, 73},
		{"f(" + deep + " b)", api.ErrWant, 74},
		{deep + " #", api.ErrToken, 72},
		{"f(" + many + ") b #", api.ErrToken, 2 + 40002 + 4},
	})
	checkFaults(t, program, []want{
		{"choice C { A(" + strings.Repeat("U,", 11000) + ") } fn f() { " + deep + " }", api.ErrDeep, 13 + 22000 + 13 + 57},
		{"choice C { A(" + strings.Repeat("U,", 11000) + ") } fn f() { " + deep, api.ErrWant, 13 + 22000 + 13 + 71},
	})
}

// P4.1: what is told is new each time.
func TestTreesAreNewEachTime(t *testing.T) {
	const s = "f(a, S { b: &mut c })"
	n, _ := parse.Expr(s)
	want := text(n)
	for i := range n.Kids {
		n.Kids[i] = api.Node{Kind: api.Nothing}
	}
	if n, _ = parse.Expr(s); text(n) != want {
		t.Errorf("%s, not %s", text(n), want)
	}
}
