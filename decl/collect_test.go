package decl_test

import (
	"strconv"
	"strings"
	"testing"

	"borrowdale/api"
	"borrowdale/decl"
	"borrowdale/expand"
	"borrowdale/sample"
	"borrowdale/tree"
)

// at is a declaration that stands elsewhere.
func at(place int, d api.Data) api.Data {
	d.At = place
	return d
}

// P8.1: what sources declare.
func TestCollect(t *testing.T) {
	for _, c := range []struct {
		source string
		want   []api.Data
	}{
		{"", nil},
		{"fn main() {} fn S() {}", nil},
		{"struct S {}", []api.Data{structOf("S", 0, "")}},
		{" choice C {}", []api.Data{at(1, choiceOf("C", 0))}},
		{"struct S { f0: int, f1: bool, f2: unit }", []api.Data{structOf("S", 0, "int;bool;unit")}},
		{"copy struct S { f0: int }", []api.Data{copying(structOf("S", 0, "int"))}},
		{"copy choice C { A, B(int, C2), D() } copy choice C2 { A }", []api.Data{copying(choiceOf("C", 0, "A", "B int;C2", "D")), at(37, copying(choiceOf("C2", 0, "A")))}},
		{"struct L<'a> { f0: &'a mut int, f1: Box[L<'a>] }", []api.Data{structOf("L", 1, "&'1 mut int;Box[L<'1>]")}},
		{"struct M<'a> { f0: &'a mut &'a int }", []api.Data{structOf("M", 1, "&'1 mut &'1 int")}},
		{"struct S<'b, 'a> { f0: &'a mut &'b int, f1: Vec[T<'a, 'b, 'a>] }\nchoice T<'x, 'y, 'z> { N, S(&'z S<'y, 'x>) }",
			[]api.Data{structOf("S", 2, "&'2 mut &'1 int;Vec[T<'2, '1, '2>]"), at(65, choiceOf("T", 3, "N", "S &'3 S<'2, '1>"))}},
		{"fn f(s: U) -> int { 1 } struct S { f0: C, f1: C } fn S() {} choice C { A } fn S() {}", []api.Data{at(24, structOf("S", 0, "C;C")), at(60, choiceOf("C", 0, "A"))}},
		{"struct S<'a, 'b> { f0: S2<'b> } struct S2<'a> { f0: &'a int }", []api.Data{structOf("S", 2, "S2<'2>"), at(32, structOf("S2", 1, "&'1 int"))}},
		{"struct S { S: int } choice C { C, S }", []api.Data{{Name: "S", Parts: []api.Part{{Names: []string{"S"}, Types: sample.Types("int")}}}, at(20, choiceOf("C", 0, "C", "S"))}},
		{"struct S { b: int, a: bool } struct T { a: unit }", []api.Data{{Name: "S", Parts: []api.Part{{Names: []string{"b", "a"}, Types: sample.Types("int;bool")}}}, {Name: "T", At: 29, Parts: []api.Part{{Names: []string{"a"}, Types: sample.Types("unit")}}}}},
		{"struct P[T] { a: T, a: U } struct S { f0: int } struct P {} choice P[S]<'a, 'a> { N, N } struct S[T] {} fn f[S]() {}", []api.Data{at(27, structOf("S", 0, "int")), at(48, structOf("P", 0, ""))}},
		{"struct A { f0: Box[B], f1: Vec[A] } struct B { f0: A }", []api.Data{structOf("A", 0, "Box[B];Vec[A]"), at(36, structOf("B", 0, "A"))}},
	} {
		n := sample.Program(c.source)
		before := tree.Copy(n)
		got, f := decl.Collect(n)
		if f != (api.Fault{}) || !alike(got, c.want) {
			t.Errorf("%s: %v\n%v", c.source, f, got)
		}
		if f := decl.Right(got); f != (api.Fault{}) {
			t.Errorf("%s: what is collected isn't right: %v", c.source, f)
		}
		spoil(got)
		again, _ := decl.Collect(n)
		if !alike(again, c.want) || !tree.Same(n, before) {
			t.Errorf("%s: the tree is written into", c.source)
		}
	}
}

// regions is so many regions, parted by commas.
func regions(count int) string {
	var l []string
	for i := range count {
		l = append(l, "'r"+strconv.Itoa(i))
	}
	return strings.Join(l, ", ")
}

// P8.1: each error of a program, at its place (@); the first one, where there are several.
func TestCollectErrors(t *testing.T) {
	many := regions(21)
	long := strings.Repeat("n", 201)
	seen := map[api.Errno]int{}
	for _, c := range []struct {
		source string
		want   api.Errno
	}{
		{"struct S {} @struct S {}", api.ErrTwice},
		{"struct S {} fn S() {} @choice S {}", api.ErrTwice},
		{"choice S {} choice C {} @copy struct S {}", api.ErrTwice},
		{"struct P[T] {} struct P {} @struct P {}", api.ErrTwice},
		{"struct A {} @struct S<'a, 'b, 'a> {}", api.ErrTwice},
		{"struct A {} @choice S<'a, 'a> {}", api.ErrTwice},
		{"@choice C { A, B, A }", api.ErrTwice},
		{"@choice C { A, A(int) }", api.ErrTwice},
		{"@struct S { a: int, b: int, a: bool }", api.ErrTwice},
		{"struct S { a: U } struct T { a: &int } @struct S { a: U }", api.ErrTwice},
		{"struct S { a: S } @struct T { a: int, a: U }", api.ErrTwice},
		{"@struct S<'a, 'a> { a: &int } struct S {}", api.ErrTwice},
		{"copy struct S { a: Box[int] } struct N<" + many + "> {} @choice T { A, A }", api.ErrTwice},

		{"struct A {} @struct S<" + many + "> {}", api.ErrRegion},
		{"@choice S<" + many + "> { A(U) }", api.ErrRegion},
		{"struct S { a: @U } struct T<" + many + "> {}", api.ErrType},
		{"@struct T<" + many + "> {} struct S { a: U }", api.ErrRegion},
		{"struct S<'a> { a: T<@'r20> } struct T<'a> {}", api.ErrRegion},
		{"struct S<" + regions(20) + "> { a: @T<" + regions(20) + "> } struct T<" + many + "> {}", api.ErrRegion},

		{"struct S { a: int, b: Box[@U] }", api.ErrType},
		{"choice C { A, B(int, @U), D(&int) }", api.ErrType},
		{"choice C { A(@&int), B(U) }", api.ErrRegion},
		{"struct S { a: @P } struct P[T] { a: T }", api.ErrType},
		{"struct S { a: @P[int] } struct P { a: int }", api.ErrType},
		{"struct S { a: @T } struct P[T] { a: T }", api.ErrType},
		{"struct S { a: @f } fn f() {}", api.ErrType},
		{"struct S { a: @&int }", api.ErrRegion},
		{"struct S<'a> { a: &'a @&int }", api.ErrRegion},
		{"struct S<'a> { a: &'a int, b: @L } struct L<'a> {}", api.ErrRegion},
		{"struct S<'a> { a: Vec[@S] }", api.ErrRegion},
		{"struct S<'a> { a: @L<'a, 'a> } struct L<'a> {}", api.ErrRegion},
		{"struct S<'a> { a: @E<'a> } struct E {}", api.ErrRegion},
		{"struct S<'a> { a: @&'b int } struct T<'b> {}", api.ErrRegion},
		{"struct S<'a> {} struct T<'b> { a: @&'a int }", api.ErrRegion},
		{"struct S<'a> { a: L<@'b> } struct L<'b> {}", api.ErrRegion},
		{"struct A { a: A } struct S { a: int, b: @U }", api.ErrType},
		{"struct S { a: @U } struct " + long + " {}", api.ErrType},
		{"struct T { a: Box[@&'a int] } struct S { a: U }", api.ErrRegion},

		{"struct A { a: A } @struct " + long + " {}", api.ErrType},
		{"struct A {} @struct S { a: int, " + long + ": int }", api.ErrType},
		{"struct A {} @choice S { A, " + long + " }", api.ErrType},
		{"struct B {} @struct A { a: " + long + " } struct " + long + " {}", api.ErrType},

		{"struct A { a: int } @struct S { a: S }", api.ErrSize},
		{"@choice S { N, C(int, S) }", api.ErrSize},
		{"struct A { a: B } @struct B { a: int, b: C } choice C { N, S(B) }", api.ErrSize},
		{"copy struct A { a: Box[int] } @struct B { a: B }", api.ErrSize},
		{"@copy choice B { A(Box[int]), C(B) }", api.ErrSize},

		{"struct A { a: Box[int] } @copy struct S { a: int, b: Box[int] }", api.ErrCopy},
		{"struct A {} @copy choice C { N, S(A) }", api.ErrCopy},
		{"@copy struct S<'a> { a: &'a mut int }", api.ErrCopy},
		{"copy struct S { a: int } @copy struct T { a: S, b: U } struct U { a: int }", api.ErrCopy},
	} {
		s, place := sample.Marked(c.source)
		seen[c.want]++
		n := sample.Program(s)
		got, f := decl.Collect(n)
		if f != (api.Fault{Kind: c.want, At: place}) || len(got) > 0 {
			t.Errorf("%.200s: %v, not %d at %d; %d declarations", c.source, f, c.want, place, len(got))
		}
	}
	if len(seen) != 5 {
		t.Errorf("%d errors", len(seen))
	}
}

// P8.1: 20 regions may be, names of 200 letters, and types as deep as a tree lets them.
func TestCollectLimits(t *testing.T) {
	long := strings.Repeat("n", 200)
	l := collected(t, "struct S<"+regions(20)+"> { a: &'r19 T<"+regions(20)+"> } choice T<"+regions(20)+"> { A }")
	if len(l) != 2 || l[0].Regions != 20 || l[0].Parts[0].Types[0].Region != 20 || l[0].Parts[0].Types[0].Args[0].Regs[19] != 20 {
		t.Error(l)
	}
	l = collected(t, "struct "+long+" { "+long+": int } choice C { "+long+"("+long+") }")
	if len(l) != 2 || l[1].Parts[0].Name != long {
		t.Error(l)
	}
	l = collected(t, "struct S<'a> { a: "+strings.Repeat("Box[", 54)+"S<'a>"+strings.Repeat("]", 54)+" }")
	if len(l) != 1 || len(l[0].Parts[0].Types) != 1 {
		t.Error(l)
	}
	var s strings.Builder
	for i := range 1500 {
		s.WriteString("struct S" + strconv.Itoa(i) + "<'a> { f0: S" + strconv.Itoa(i+1) + "<'a> } ")
	}
	s.WriteString("struct S1500<'a> { f0: &'a mut &'a int }")
	l = collected(t, s.String())
	if v := decl.Variance(l, "S0"); len(l) != 1501 || len(v) != 1 || v[0] != 2 {
		t.Error(len(l), v)
	}
}

// P8.1: what is expanded declares its instances.
func TestCollectExpanded(t *testing.T) {
	n, f := expand.Expand(sample.Program("choice List[T] { Nil, Cons(T, Box[List[T]]) } struct G[T]<'a> { g: &'a T } struct H<'b> { h: G[List[int]]<'b> }"))
	if f != (api.Fault{}) {
		t.Fatal(f)
	}
	l, f := decl.Collect(n)
	if f != (api.Fault{}) || len(l) != 3 || l[0].Name != "H" || !decl.Drops(l, sample.Type("List__i")) || decl.Drops(l, sample.Type("H<'1>")) {
		t.Error(f, l)
	}
}

// What is no right program's tree declares nothing, and has an end.
func TestCollectOdd(t *testing.T) {
	leaf := of(api.TInt, "", 0)
	for _, n := range []api.Node{
		{}, leaf, of(api.Struct, "S", 0, names(), names()), of(api.Program, "", 0, leaf), of(api.Program, "", 0, of(api.Struct, "S", 0)), of(api.Program, "", 0, of(api.Struct, "S", 0, names())),
		of(api.Program, "", 0, of(api.Struct, "S", 0, names(), names(), of(api.FieldDecl, "a", 0))), of(api.Program, "", 0, of(api.Struct, "S", 2, names(), names())),
		of(api.Program, "", 0, of(api.Choice, "S", 0, names(), names(), of(api.CaseDecl, "A", 0, within(60, leaf)))), of(api.Program, "", 0, of(api.Choice, "S", 0, leaf, leaf, leaf)),
	} {
		if l, f := decl.Collect(n); len(l) > 0 || f != (api.Fault{}) {
			t.Errorf("%v: %v %v", n, l, f)
		}
	}
}
