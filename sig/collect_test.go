package sig_test

import (
	"slices"
	"strconv"
	"strings"
	"testing"

	"borrowdale/api"
	"borrowdale/decl"
	"borrowdale/expand"
	"borrowdale/sample"
	"borrowdale/sig"
	"borrowdale/tree"
)

// collects tells whether the functions of a source, behind what is declared, are these; they are right.
func collects(t *testing.T, source string, want ...api.Sig) {
	t.Helper()
	n, l := sample.Program(source), sample.Declared(shared)
	before := tree.Copy(n)
	got, f := sig.Collect(n, l)
	if f != (api.Fault{}) || !alike(got, want) {
		t.Errorf("%.300s: %v\n%v", source, f, got)
	}
	for _, s := range got {
		if !sig.Right(s, l) {
			t.Errorf("%.300s: %s isn't right", source, sig.Text(s))
		}
	}
	spoil(got)
	again, _ := sig.Collect(n, l)
	if !alike(again, want) || !tree.Same(n, before) {
		t.Errorf("%.300s is written into", source)
	}
}

// P9.6: functions without regions that are left out; those with templates; no result; main. P9.7: they are right.
func TestCollect(t *testing.T) {
	collects(t, "")
	collects(t, "struct f {} choice g {}")
	collects(t, "fn f() {}", of("f", 0, "", "unit"))
	collects(t, "fn f() -> unit {} fn g() -> int { 1 } struct h {} fn h(a: int, mut b: bool, c: Box[Vec[S]]) -> S { a }", of("f", 0, "", "unit"), of("g", 0, "", "int"), of("h", 0, "int;bool;Box[Vec[S]]", "S"))
	collects(t, "fn f<'b, 'a>(x: &'a mut Q<'a, 'b>, y: R<'b>) -> &'b R<'a> {}", of("f", 2, "&'2 mut Q<'2, '1>;R<'1>", "&'1 R<'2>"))
	collects(t, "fn f<'a, 'b, 'c>() -> &'c int where 'a: 'b, 'c: 'c, 'a: 'b, 'b: 'a {}", of("f", 3, "", "&'3 int", 1, 2, 3, 3, 1, 2, 2, 1))
	collects(t, "fn f[T](x: T) -> &T {} fn g(x: int) {} fn g[T](y: U, y: U) {} fn f() {} fn at[T]() {} fn main[T](x: T) {}", of("g", 0, "int", "unit"), of("f", 0, "", "unit"))
	collects(t, "fn S(S: S) -> S {} fn R<'S>(R: R<'S>) {} fn x(x: int) {}", of("S", 0, "S", "S"), of("R", 1, "R<'1>", "unit"), of("x", 0, "int", "unit"))
	collects(t, "fn ats() {} fn At() {} fn boxx() {} fn at_mu() {} fn mains(x: int) -> S {} fn Main<'a>() {}", of("ats", 0, "", "unit"), of("At", 0, "", "unit"), of("boxx", 0, "", "unit"), of("at_mu", 0, "", "unit"), of("mains", 0, "int", "S"), of("Main", 1, "", "unit"))
	collects(t, "fn f() -> int { fn_() } fn fn_() -> bool { return U; }", of("f", 0, "", "int"), of("fn_", 0, "", "bool"))
	for result, want := range map[string]string{"": "unit", "-> unit": "unit", "-> int": "int", "-> bool": "bool"} {
		collects(t, "fn f() {} fn main() "+result+" {} fn g() {}", of("f", 0, "", "unit"), of("main", 0, "", want), of("g", 0, "", "unit"))
	}
}

// P9.6: regions that are left out. P9.7: what is collected is right.
func TestCollectLeftOut(t *testing.T) {
	collects(t, "fn f(x: &int) {}", of("f", 1, "&'1 int", "unit"))
	collects(t, "fn f(x: &int, y: &mut &bool) {}", of("f", 3, "&'1 int;&'2 mut &'3 bool", "unit"))
	collects(t, "fn f<'a>(x: &int, y: &'a mut &bool, z: Q) {}", of("f", 5, "&'2 int;&'1 mut &'3 bool;Q<'4, '5>", "unit"))
	collects(t, "fn f<'a, 'b>(x: Vec[&Box[R]], y: int, z: W) -> int {}", of("f", 24, "Vec[&'3 Box[R<'4>]];int;W<'5, '6, '7, '8, '9, '10, '11, '12, '13, '14, '15, '16, '17, '18, '19, '20, '21, '22, '23, '24>", "int"))
	collects(t, "fn f(x: &int) {} fn g<'a>(x: &int) {} fn h(x: &int) {}", of("f", 1, "&'1 int", "unit"), of("g", 2, "&'2 int", "unit"), of("h", 1, "&'1 int", "unit"))

	collects(t, "fn f(x: &int) -> &int {}", of("f", 1, "&'1 int", "&'1 int"))
	collects(t, "fn f(a: int, x: &int, b: S) -> &mut Box[&R] {}", of("f", 1, "int;&'1 int;S", "&'1 mut Box[&'1 R<'1>]"))
	collects(t, "fn f(x: R) -> Q {}", of("f", 1, "R<'1>", "Q<'1, '1>"))
	collects(t, "fn f<'a>(x: &'a int) -> &int {}", of("f", 1, "&'1 int", "&'1 int"))
	collects(t, "fn f<'a, 'b>(x: &'b R<'b>, y: &'b mut int, z: Vec[Q<'b, 'b>]) -> &int {}", of("f", 2, "&'2 R<'2>;&'2 mut int;Vec[Q<'2, '2>]", "&'2 int"))
	collects(t, "fn f<'a, 'b>(x: &'b int) -> Q<'b, 'a> where 'a: 'b {}", of("f", 2, "&'2 int", "Q<'2, '1>", 1, 2))
	collects(t, "fn f<'a, 'b>(x: &'b int) -> &'a &mut &'b R {}", of("f", 2, "&'2 int", "&'1 &'2 mut &'2 R<'2>"))
	collects(t, "fn f<'a>(x: &int) -> &'a &int {}", of("f", 2, "&'2 int", "&'1 &'2 int"))
	collects(t, "fn f<'a, 'b>(x: &int) -> Vec[W] {}", of("f", 3, "&'3 int", "Vec[W<"+strings.Repeat("'3, ", 19)+"'3>]"))
	collects(t, "fn f<'a, 'b>(x: &int, y: R) -> &'b R<'a> {}", of("f", 4, "&'3 int;R<'4>", "&'2 R<'1>"))
	collects(t, "fn f(x: &int, y: &int) -> Box[S] {}", of("f", 2, "&'1 int;&'2 int", "Box[S]"))
}

// named is so many of something: its name, and a number behind it.
func named(name string, count int, rest string) string {
	var l []string
	for i := range count {
		l = append(l, name+strconv.Itoa(i)+rest)
	}
	return strings.Join(l, ", ")
}

// P9.6, P9.7: as much as may be.
func TestCollectLimits(t *testing.T) {
	long := strings.Repeat("n", 200)
	collects(t, "fn "+long+"() {}", of(long, 0, "", "unit"))
	var where []int
	for range 100 {
		where = append(where, 1, 20)
	}
	collects(t, "fn f<"+named("'r", 20, "")+">("+named("a", 20, ": &'r19 int")+") -> &int where "+strings.Repeat("'r0: 'r19, ", 99)+"'r0: 'r19 {}", of("f", 20, strings.Repeat("&'20 int;", 20), "&'20 int", where...))

	// 20 parameters with 25 regions each are as many as may be.
	full := named("a", 20, ": &&&&&W")
	n := sample.Program("fn f(" + full + ") -> Box[S] {} fn g<'a>(" + named("a", 19, ": &&&&&W") + ", z: &&&&W) -> &'a int {}")
	l := sample.Declared(shared)
	got, f := sig.Collect(n, l)
	if f != (api.Fault{}) || len(got) != 2 || got[0].Regions != 500 || got[1].Regions != 500 || got[0].Params[19].Region != 476 || got[1].Params[19].Region != 477 || !sig.Right(got[0], l) || !sig.Right(got[1], l) {
		t.Error(f, got)
	}
	collects(t, "fn f(x: "+strings.Repeat("Box[", 54)+"S"+strings.Repeat("]", 54)+") -> "+strings.Repeat("Vec[", 56)+"S"+strings.Repeat("]", 56)+" {}", api.Sig{Name: "f", Params: []api.Type{sample.Within(54, sample.Type("S"))}, Result: vectors(56, sample.Type("S"))})
	collects(t, "fn f(x: &int) -> "+strings.Repeat("&", 56)+"S {}", api.Sig{Name: "f", Regions: 1, Params: sample.Types("&'1 int"), Result: references(56, sample.Type("S"))})
}

// vectors is a type within so many vectors.
func vectors(n int, t api.Type) api.Type {
	for range n {
		t = api.Type{Kind: api.KVec, Args: []api.Type{t}}
	}
	return t
}

// references is a type behind so many references of the region 1.
func references(n int, t api.Type) api.Type {
	for range n {
		t = api.Type{Kind: api.KRef, Region: 1, Args: []api.Type{t}}
	}
	return t
}

// faults is sources with a fault, at the place of the @.
func faults() map[string]api.Errno {
	many := strings.Repeat("'a: 'a, ", 100) + "'a: 'a"
	long := strings.Repeat("n", 201)
	full := named("a", 20, ": &&&&&W")
	return map[string]api.Errno{
		"fn f() {} fn g() {} @fn f(x: int) {}":                            api.ErrTwice,
		"fn f() {} struct f {} @fn f() {}":                                api.ErrTwice,
		"fn f[T]() {} fn f() {} @fn f() {}":                               api.ErrTwice,
		"fn f() {} @fn g<'a, 'b, 'a>() {}":                                api.ErrTwice,
		"@fn f<'a, 'a>() {}":                                              api.ErrTwice,
		"@fn f(x: int, y: int, x: bool) {}":                               api.ErrTwice,
		"fn f() {} @fn g(x: U, x: U) {}":                                  api.ErrTwice,
		"fn main() {} @fn main() {}":                                      api.ErrTwice,
		"@fn f<" + named("'a", 21, "") + ", 'a0>() {}":                    api.ErrTwice,
		"fn f() {} @fn g<" + named("'a", 21, "") + ">() {}":               api.ErrMany,
		"fn f() {} @fn g(" + named("a", 21, ": int") + ") {}":             api.ErrMany,
		"fn f() {} @fn g<'a>() where " + many + " {}":                     api.ErrMany,
		"fn f() {} @fn " + long + "() {}":                                 api.ErrMany,
		"fn " + long + "[T]() {} @fn f" + long + "() {}":                  api.ErrMany,
		"@fn g<'a>() where " + strings.ReplaceAll(many, "a", "z") + " {}": api.ErrMany,

		"fn f() {} fn g(x: int, y: @U) {}":                                    api.ErrType,
		"fn f(x: Box[@U], y: V) -> T {}":                                      api.ErrType,
		"fn f(x: int) -> Vec[@U] {}":                                          api.ErrType,
		"fn f[U]() {} fn g() -> @U {}":                                        api.ErrType,
		"fn f() -> @f {}":                                                     api.ErrType,
		"fn f(x: @S[int]) {}":                                                 api.ErrType,
		"fn f() -> @S[int] {}":                                                api.ErrType,
		"fn f(x: @&'a int) {}":                                                api.ErrRegion,
		"fn f<'a>(x: &'a @&'b int) {}":                                        api.ErrRegion,
		"fn f<'a>(x: Q<'a, @'b>) {}":                                          api.ErrRegion,
		"fn f<'a>(x: @Q<'a>) {}":                                              api.ErrRegion,
		"fn f<'a>(x: @S<'a>) {}":                                              api.ErrRegion,
		"fn f<'a>() -> @R<'a, 'a> {}":                                         api.ErrRegion,
		"fn f(x: &int) -> &@&'a int {}":                                       api.ErrRegion,
		"fn f<'a>() {} fn g() -> @&'a int {}":                                 api.ErrRegion,
		"fn f(x: @&'a &'b int) -> U {}":                                       api.ErrRegion,
		"fn f<'a>(" + named("a", 19, ": &&&&&W") + ", z: &&&&&@W) {}":         api.ErrType,
		"fn f<'a>(" + named("a", 19, ": &&&&&W") + ", z: W) -> &&&&@&&int {}": api.ErrType,
		"fn f(" + full + ") -> @&int {}":                                      api.ErrType,
		"fn f(" + full + ") -> Box[@R] {}":                                    api.ErrType,
		"fn f(" + strings.Replace(full, "W", "R", 1) + ") -> @&int {}":        api.ErrElide,

		"fn f() -> @&int {}":                                       api.ErrElide,
		"fn f(x: int, y: S) -> @R {}":                              api.ErrElide,
		"fn f<'a>() -> @Box[&int] {}":                              api.ErrElide,
		"fn f<'a>(x: int) -> @&'a &int {}":                         api.ErrElide,
		"fn f(x: &int, y: &int) -> @&int {}":                       api.ErrElide,
		"fn f<'a>(x: &'a int, y: &int) -> @&int {}":                api.ErrElide,
		"fn f<'a, 'b>(x: &'a int, y: R<'b>) -> @Vec[R] {}":         api.ErrElide,
		"fn f(x: &&int) -> @&int {}":                               api.ErrElide,
		"fn f(x: Q) -> @&int {}":                                   api.ErrElide,
		"fn f<'a>(x: Q<'a, 'a>, y: R) -> @&int {}":                 api.ErrElide,
		"fn g(x: &int) -> &int {} fn f(x: &int, y: &int) -> @Q {}": api.ErrElide,

		"fn f<'a>() where @'a: 'b {}":                               api.ErrRegion,
		"fn f<'a>() where @'b: 'a {}":                               api.ErrRegion,
		"fn f<'a, 'b>() where 'a: 'b, 'b: 'a, @'c: 'c {}":           api.ErrRegion,
		"fn f(x: &int) -> &int where @'a: 'a {}":                    api.ErrRegion,
		"fn f<'a>() {} fn g<'b>() where 'b: 'b, @'b: 'a, 'c: 'b {}": api.ErrRegion,

		"fn f() {} @fn main(x: int) {}":             api.ErrFn,
		"@fn main(x: &int) -> int {}":               api.ErrFn,
		"@fn main<'a>() {}":                         api.ErrFn,
		"@fn main() -> S {}":                        api.ErrFn,
		"@fn main() -> Box[int] {}":                 api.ErrFn,
		"@fn main() -> Vec[bool] {}":                api.ErrFn,
		"@fn main<'a>() -> &'a int {}":              api.ErrFn,
		"fn f() {} @fn main<'a>() where 'a: 'a {}":  api.ErrFn,
		"fn main[T]() {} @fn main() -> S {}":        api.ErrFn,
		"@fn main(x: &int) -> &int {} fn main() {}": api.ErrFn,
	}
}

// refused tells whether a source is refused, with an error at the place of the @.
func refused(t *testing.T, source string, want api.Errno) {
	t.Helper()
	s, place := sample.Marked(source)
	n, l := sample.Program(s), sample.Declared(shared)
	got, f := sig.Collect(n, l)
	if f != (api.Fault{Kind: want, At: place}) || len(got) > 0 {
		t.Errorf("%.300s: %v, not %d at %d; %v", source, f, want, place, got)
	}
	if _, f := modelCollect(n, l); f != (api.Fault{Kind: want, At: place}) {
		t.Errorf("%.300s: the model says %v", source, f)
	}
}

// P9.6: each error, at its place.
func TestCollectErrors(t *testing.T) {
	seen := map[api.Errno]int{}
	for source, want := range faults() {
		seen[want]++
		refused(t, source, want)
	}
	if len(seen) != 6 {
		t.Error(seen)
	}
	for _, name := range sig.Builtins() {
		refused(t, "fn f() {} @fn "+name+"(x: U) {}", api.ErrTwice)
	}
}

// faulty is a function of a name with these of the chapter's errors, the first of which is marked by @, and that one's error. It has a region and an arg: so it can't be called main (6).
func faulty(name string, has []int) (string, api.Errno) {
	mark := func(e int) string {
		if e == has[0] {
			return "@"
		}
		return ""
	}
	regions, args, result, where := "'a", "a: int", "int", "'a: 'a"
	for _, e := range has {
		switch e {
		case 1:
			regions += ", 'a"
		case 2:
			args += ", " + named("b", 20, ": int")
		case 3:
			args += ", u: " + mark(3) + "U"
		case 4:
			result = mark(4) + "&int"
		case 5:
			where += ", " + mark(5) + "'z: 'a"
		case 6:
			name = "main"
		}
	}
	begin := ""
	if has[0] == 1 || has[0] == 2 || has[0] == 6 {
		begin = "@"
	}
	return begin + "fn " + name + "<" + regions + ">(" + args + ") -> " + result + " where " + where + " {} ", []api.Errno{api.ErrTwice, api.ErrMany, api.ErrType, api.ErrElide, api.ErrRegion, api.ErrFn}[has[0]-1]
}

// P9.6: of two errors of one function the one that is named first is told; of two functions with errors the first one's.
func TestCollectOrder(t *testing.T) {
	for i := 1; i <= 6; i++ {
		alone, want := faulty("f", []int{i})
		refused(t, "fn e() {} "+alone+"fn g() {}", want)
		for j := 1; j <= 6; j++ {
			other, _ := faulty("g", []int{j})
			refused(t, alone+strings.ReplaceAll(other, "@", ""), want)
			if i < j {
				both, want := faulty("f", []int{i, j})
				refused(t, "fn e() {} "+both, want)
				all, want := faulty("f", []int{i, j, 6})
				refused(t, all, want)
			}
		}
		twice, _ := faulty("f", []int{i})
		refused(t, twice+"fn h() {} fn h() {}", want)
		if i < 6 {
			refused(t, "fn f() {} @"+strings.ReplaceAll(twice, "@", ""), api.ErrTwice)
			refused(t, "@"+strings.ReplaceAll(strings.ReplaceAll(twice, "@", ""), "fn f", "fn swap"), api.ErrTwice)
		}
	}
	refused(t, "fn f(x: @U, y: V) -> T where 'z: 'z {}", api.ErrType)
	refused(t, "fn f(x: &int) -> &@U {}", api.ErrType)
	refused(t, "fn f() -> &@U {}", api.ErrType)
	refused(t, "fn f() -> Box[@T[&'z int]] {}", api.ErrType)
}

// P9.6, P9.7: what is expanded.
func TestCollectExpanded(t *testing.T) {
	n, f := expand.Expand(sample.Program("struct P[T]<'a> { a: &'a T } fn f[T](x: P[T]) -> &T { x.a } fn main() { f[int](P[int] { a: &1 }); }"))
	if f != (api.Fault{}) {
		t.Fatal(f)
	}
	l, f := decl.Collect(n)
	if f != (api.Fault{}) {
		t.Fatal(f)
	}
	got, f := sig.Collect(n, l)
	if f != (api.Fault{}) || len(got) != 2 || sig.Text(got[0]) != "fn main() -> unit" || sig.Text(got[1]) != "fn f__i<'1>(P__i<'1>) -> &'1 int" || !sig.Right(got[1], l) {
		t.Error(f, got)
	}
}

// What is no right program's tree has no functions; of declarations that aren't right there is an end; many functions.
func TestCollectOdd(t *testing.T) {
	node := func(kind int, text string, kids ...api.Node) api.Node {
		return api.Node{Kind: kind, Text: text, Kids: kids}
	}
	empty := node(api.Names, "")
	deep := node(api.TInt, "")
	for range 60 {
		deep = node(api.TBox, "", deep)
	}
	for _, n := range []api.Node{
		{}, node(api.Fn, "f"), node(api.Program, "", node(api.Fn, "f")), node(api.Program, "", node(api.Fn, "f", empty, empty)), node(api.Program, "", node(api.Fn, "f", empty, empty, node(api.Args, ""), api.Node{}, node(api.Wheres, ""))),
		node(api.Program, "", node(api.Fn, "f", empty, empty, node(api.Args, "", node(api.Arg, "x")), api.Node{}, node(api.Wheres, ""), node(api.Block, "", api.Node{}))),
		node(api.Program, "", node(api.Fn, "f", empty, empty, node(api.Args, ""), deep, node(api.Wheres, ""), node(api.Block, "", api.Node{}))),
		node(api.Program, "", node(api.Fn, "f", empty, empty, node(api.Args, ""), api.Node{}, node(api.Wheres, "", node(api.Where, "'a")), node(api.Block, "", api.Node{}))),
		node(api.Program, "", node(api.Fn, "", empty, empty, node(api.Args, ""), api.Node{}, node(api.Wheres, ""), node(api.Block, "", api.Node{}))),
	} {
		if l, f := sig.Collect(n, sample.Declared(shared)); len(l) > 0 || f != (api.Fault{}) {
			t.Errorf("%v: %v %v", n, l, f)
		}
	}
	n := sample.Program("fn f(x: S, y: &S) -> &Q {}")
	for _, l := range [][]api.Data{nil, {{Name: "S", Regions: 1 << 62}}, {{Name: "S", Regions: -1 << 63}, {Name: "Q", Regions: 21}}, {{Name: "Q"}, {Name: "S", Parts: []api.Part{{Types: sample.Endless()}}}}} {
		sig.Collect(n, l)
	}
	var s strings.Builder
	for i := range 2000 {
		s.WriteString("fn f" + strconv.Itoa(i) + "() {}\n")
	}
	got, f := sig.Collect(sample.Program(s.String()), nil)
	if f != (api.Fault{}) || len(got) != 2000 || !same(got[1999], of("f1999", 0, "", "unit")) {
		t.Error(f, len(got))
	}
	if i := slices.IndexFunc(got, func(s api.Sig) bool { return s.Name == "f77" }); i != 77 {
		t.Error("not in order")
	}
}
