package expand_test

import "borrowdale/api"

// row is a source, what becomes of it, and which instances it needs.
type row struct{ source, want, needs string }

// takenRows is sources that are taken.
func takenRows() []row {
	return []row{
		// Templates of each sort, used by a TName, a Build, a Case, a Call.
		{"struct P[T] { a: T } fn f(p: P[int]) {}", "fn f(p: P__i) {} struct P__i { a: int }", "P__i"},
		{"copy choice Opt[T] { No, One(T) } fn f() { let x: Opt[bool] = g(); }", "fn f() { let x: Opt__b = g(); } copy choice Opt__b { No, One(bool) }", "Opt__b"},
		{"struct P[T] { a: T } fn f() { P[unit] { a: () }; }", "fn f() { P__u { a: () }; } struct P__u { a: unit }", "P__u"},
		{"choice Opt[T] { No, One(T) } fn f() { match Opt::One[int](1) { Opt::No => Opt::No[int], Opt::One(x) => Opt::One[int](x) } }", "fn f() { match Opt__i::One(1) { Opt::No => Opt__i::No, Opt::One(x) => Opt__i::One(x) } } choice Opt__i { No, One(int) }", "Opt__i"},
		{"fn id[T](mut x: T) -> T { x } fn main() { id[int](1); id[bool](true); id[int](2); }", "fn main() { id__i(1); id__b(true); id__i(2); } fn id__i(mut x: int) -> int { x } fn id__b(mut x: bool) -> bool { x }", "id__i id__b"},
		{"struct P[T] {} fn f() { P::A[int]; } choice C[T] {} fn g() { C[int] {}; }", "fn f() { P__i::A; } fn g() { C__i {}; } struct P__i {} choice C__i {}", "P__i C__i"},

		// What no use names, and what is used nowhere.
		{"", "", ""},
		{"struct P[T] { a: Q[T, T], b: P, c: P[&T] } fn f[T](x: S[int]) {}", "", ""},
		{"struct S<'a> { x: &'a int } choice C { A(S<'a>, Box[T]), B } fn f<'a, 'b>(x: &mut S) -> int where 'a: 'b { let y = C::B; S { x: f(1) } }", "struct S<'a> { x: &'a int } choice C { A(S<'a>, Box[T]), B } fn f<'a, 'b>(x: &mut S) -> int where 'a: 'b { let y = C::B; S { x: f(1) } }", ""},
		{"struct S {} choice S {} fn f() {} fn f() {} fn S() {}", "struct S {} choice S {} fn f() {} fn f() {} fn S() {}", ""},
		{"fn f() { P[T]() } struct P[T] {}", "fn f() { P[T]() }", ""},

		// Within arguments of others, within instances of others, within itself.
		{"struct P[T] { a: T } fn f(p: P[Box[P[bool]]], q: P[P[bool]]) {}", "fn f(p: P__B4P__b, q: P__4P__b) {} struct P__b { a: bool } struct P__B4P__b { a: Box[P__b] } struct P__4P__b { a: P__b }", "P__b P__B4P__b P__4P__b"},
		{"fn main() { a[int](); } fn a[T]() { b[Box[T]](); c[T]() } fn b[T]() { c[T](); a[int]() } fn c[T]() {} fn z() { c[Box[int]]() }", "fn main() { a__i(); } fn z() { c__Bi() } fn a__i() { b__Bi(); c__i() } fn c__Bi() {} fn b__Bi() { c__Bi(); a__i() } fn c__i() {}", "a__i c__Bi b__Bi c__i"},
		{"fn f[T](n: int) { f[T](n) } fn main() { f[unit](1) }", "fn main() { f__u(1) } fn f__u(n: int) { f__u(n) }", "f__u"},
		{"struct L[T] { x: T, next: Opt[Box[L[T]]] } choice Opt[T] { No, One(T) } fn f(l: &L[int]) {}", "fn f(l: &L__i) {} struct L__i { x: int, next: Opt__B4L__i } choice Opt__B4L__i { No, One(Box[L__i]) }", "L__i Opt__B4L__i"},
		{"struct A[T] { b: B[T] } struct B[T] { a: Box[A[T]] } fn f(b: B[bool]) {}", "fn f(b: B__b) {} struct B__b { a: Box[A__b] } struct A__b { b: B__b }", "B__b A__b"},
		{"struct M[A, B] { a: A, m: Box[M[B, A]] } fn f(m: M[int, Vec[bool]]) {}", "fn f(m: M__iVb) {} struct M__iVb { a: int, m: Box[M__Vbi] } struct M__Vbi { a: Vec[bool], m: Box[M__iVb] }", "M__iVb M__Vbi"},

		// The order: each node behind its Kids.
		{"struct S[T] { x: T } fn f() { S[int] { x: S[bool] { x: S[unit] {}, y: 1 } } }", "fn f() { S__i { x: S__b { x: S__u {}, y: 1 } } } struct S__u { x: unit } struct S__b { x: bool } struct S__i { x: int }", "S__u S__b S__i"},
		{"struct A[T] {} struct B[T] {} fn f[T](x: int) {} fn g[T]() {} fn main() { f[A[int]](g[B[bool]]()) }", "fn main() { f__4A__i(g__4B__b()) } struct A__i {} struct B__b {} fn g__4B__b() {} fn f__4A__i(x: int) {}", "A__i B__b g__4B__b f__4A__i"},
		{"choice C[T] { A(T) } fn f(x: C[int], y: C[bool]) -> C[unit] { let z: C[Box[int]] = C::A[Box[bool]](C::A[Box[unit]]()); }", "fn f(x: C__i, y: C__b) -> C__u { let z: C__Bi = C__Bb::A(C__Bu::A()); } choice C__i { A(int) } choice C__b { A(bool) } choice C__u { A(unit) } choice C__Bi { A(Box[int]) } choice C__Bu { A(Box[unit]) } choice C__Bb { A(Box[bool]) }", "C__i C__b C__u C__Bi C__Bu C__Bb"},
		{"fn a() { p[int](); } fn p[T]() {} struct S { x: P[int] } struct P[T] {} fn b() { p[bool]() }", "fn a() { p__i(); } struct S { x: P__i } fn b() { p__b() } fn p__i() {} struct P__i {} fn p__b() {}", "p__i P__i p__b"},

		// The same arguments twice.
		{"struct P[T] { a: T } fn f(a: P[Box[int]], b: P[Box[int]]) { P[Box[int]] { a: box(1) }; P::X[Box[int]]; }", "fn f(a: P__Bi, b: P__Bi) { P__Bi { a: box(1) }; P__Bi::X; } struct P__Bi { a: Box[int] }", "P__Bi"},
		{"struct P[T] { a: T } struct Q[T] {} fn f(a: P[Q__i], b: P[Q[int]], c: Q__i) {}", "fn f(a: P__4Q__i, b: P__4Q__i, c: Q__i) {} struct P__4Q__i { a: Q__i } struct Q__i {}", "P__4Q__i Q__i"},
		{"struct A[T] {} struct A__i[T] {} fn f(x: A[bool], y: A__i[bool]) {}", "fn f(x: A__b, y: A__i__b) {} struct A__b {} struct A__i__b {}", "A__b A__i__b"},

		// Both sorts have names of their own.
		{"struct f[T] {} fn f(x: f[int]) { f(x) }", "fn f(x: f__i) { f(x) } struct f__i {}", "f__i"},
		{"struct f {} fn f[T](x: f) { f {}; f[T](x) } fn g() { f[int](f {}) }", "struct f {} fn g() { f__i(f {}) } fn f__i(x: f) { f {}; f__i(x) }", "f__i"},
		{"struct f[T] { x: T } fn f[T](x: f[T]) {} fn main() { f[int](f[int] {}) }", "fn main() { f__i(f__i {}) } struct f__i { x: int } fn f__i(x: f__i) {}", "f__i f__i"},

		// Arguments of Calls that name no template are met, and stay.
		{"struct P[T] {} fn f() { vec[P[int]](); f[&P[bool], P__i<'a>, unit](1); none[int]() }", "fn f() { vec[P__i](); f[&P__b, P__i<'a>, unit](1); none[int]() } struct P__i {} struct P__b {}", "P__i P__b"},
		{"fn g[T]() { vec[T](); vec[&mut Vec[T]]() } fn f() { g[bool]() }", "fn f() { g__b() } fn g__b() { vec[bool](); vec[&mut Vec[bool]]() }", "g__b"},

		// Regions stay, told or not.
		{"struct R[T]<'a, 'b> { x: &'a T, y: &'b mut R[T]<'a, 'b> } fn f<'a>(x: R[int]<'a>, y: &mut R[int]) -> &'a int where 'a: 'a {}", "fn f<'a>(x: R__i<'a>, y: &mut R__i) -> &'a int where 'a: 'a {} struct R__i<'a, 'b> { x: &'a int, y: &'b mut R__i<'a, 'b> }", "R__i"},
		{"fn f[T]<'a, 'b>(x: &'a T, mut y: &'b mut T) -> &'a T where 'a: 'b, 'b: 'a { 'l: while true { continue 'l } x } fn g() { f[int](1) }", "fn g() { f__i(1) } fn f__i<'a, 'b>(x: &'a int, mut y: &'b mut int) -> &'a int where 'a: 'b, 'b: 'a { 'l: while true { continue 'l } x }", "f__i"},

		// What is put for names, and what isn't.
		{"struct T {} struct P[T] { a: T, b: T<'a>, c: &'a mut Vec[Box[T]], T: int } fn f(p: P[bool]) -> T {}", "struct T {} fn f(p: P__b) -> T {} struct P__b { a: bool, b: T<'a>, c: &'a mut Vec[Box[bool]], T: int }", "P__b"},
		{"struct P[P] { a: P, b: Q[P] } struct Q[P] { a: P } fn f(p: P[unit]) {}", "fn f(p: P__u) {} struct P__u { a: unit, b: Q__u } struct Q__u { a: unit }", "P__u Q__u"},
		{"struct M[A, B] { a: A, b: B } fn f(m: M[B, A]) {}", "fn f(m: M__1B1A) {} struct M__1B1A { a: B, b: A }", "M__1B1A"},
		{"fn f[T](T: T) -> T { T(T); T {}; T::T; let T: T = T; match T { T => T, T::T(T) => 1 } } fn g() { f[int](1) }", "fn g() { f__i(1) } fn f__i(T: int) -> int { T(T); T {}; T::T; let T: int = T; match T { T => T, T::T(T) => 1 } }", "f__i"},

		// Letters.
		{"struct P[T] {} fn f(a: P[int], b: P[bool], c: P[unit], d: P[Box[int]], e: P[Vec[unit]], g: P[Box[Vec[Box[bool]]]], h: P[S], i: P[Box[S]]) {} struct S {}", "fn f(a: P__i, b: P__b, c: P__u, d: P__Bi, e: P__Vu, g: P__BVBb, h: P__1S, i: P__B1S) {} struct S {} struct P__i {} struct P__b {} struct P__u {} struct P__Bi {} struct P__Vu {} struct P__BVBb {} struct P__1S {} struct P__B1S {}", "P__i P__b P__u P__Bi P__Vu P__BVBb P__1S P__B1S"},
		{"struct M[A, B, C] {} fn f(m: M[int, Box[tenletters], Abcdefghijk], n: M[M[int, bool, unit], int, M[int, bool, unit]]) {}", "fn f(m: M__iB10tenletters11Abcdefghijk, n: M__6M__ibui6M__ibu) {} struct M__iB10tenletters11Abcdefghijk {} struct M__ibu {} struct M__6M__ibui6M__ibu {}", "M__iB10tenletters11Abcdefghijk M__ibu M__6M__ibui6M__ibu"},

		// Plain, though something near it isn't.
		{"struct P[T] {} fn S<'a>() {} fn f(x: P[S]) {}", "fn S<'a>() {} fn f(x: P__1S) {} struct P__1S {}", "P__1S"},
		{"struct P[T] {} struct S {} struct S<'a> { x: &'a int } fn f(x: P[S]) {}", "struct S {} struct S<'a> { x: &'a int } fn f(x: P__1S) {} struct P__1S {}", "P__1S"},
		{"struct P[T] { a: T } struct R[T]<'a> { x: &'a T } fn f(x: P[R__i], y: R[int]) {}", "fn f(x: P__4R__i, y: R__i) {} struct P__4R__i { a: R__i } struct R__i<'a> { x: &'a int }", "P__4R__i R__i"},
		{"struct P[T] {} fn g[T]<'a>() {} fn f(x: P[bool]) { g[int](); } fn h(x: P[g__i]) {}", "fn f(x: P__b) { g__i(); } fn h(x: P__4g__i) {} struct P__b {} fn g__i<'a>() {} struct P__4g__i {}", "P__b g__i P__4g__i"},

		// An instance with the name of a template that is put nowhere.
		{"struct Q[T] {} struct Q__i[T] {} struct P[T] {} fn f(x: P[Q[int]], y: Q__i[bool]) {}", "fn f(x: P__4Q__i, y: Q__i__b) {} struct Q__i {} struct P__4Q__i {} struct Q__i__b {}", "Q__i P__4Q__i Q__i__b"},
	}
}

// fault is a source that is refused: with what, at its @.
type fault struct {
	source string
	kind   api.Errno
}

// faultRows is sources that are refused.
func faultRows() []fault {
	return []fault{
		// An item of the same sort has the name, and one of the two is a template.
		{"struct P[T] {} @struct P {}", api.ErrTwice},
		{"struct P {} @choice P[T] {}", api.ErrTwice},
		{"choice P[T] {} @copy choice P[U] {}", api.ErrTwice},
		{"fn f[T]() {} @fn f() {}", api.ErrTwice},
		{"fn f() {} fn f() {} @fn f[T]() {}", api.ErrTwice},
		{"fn f() {} struct f[T] {} struct g {} fn f() {} choice g {} @copy struct f {} fn f[T]() {}", api.ErrTwice},
		{"@struct P[T, T] {}", api.ErrTwice},
		{"struct Q[T, U]<'a, 'a> {} @fn f[T, U, T]() {} struct P[T, T] {}", api.ErrTwice},
		{"fn g(x: Q[int]) {} struct P[T] {} @struct P {}", api.ErrTwice},
		{"fn g() {} @choice C[A, B, B] {} fn g[T]() {}", api.ErrTwice},

		// It names no template.
		{"fn f(x: @Q[int]) {}", api.ErrTemplate},
		{"struct S {} fn f(x: @S[int]) {}", api.ErrTemplate},
		{"fn f() { @S[int] {} } struct S {}", api.ErrTemplate},
		{"fn f() { @C::A[int] } choice C { A }", api.ErrTemplate},
		{"fn f() { @C::A[int](1) } fn C[T]() {}", api.ErrTemplate},
		{"fn Q[T]() {} fn f(x: @Q[int]) {}", api.ErrTemplate},
		{"fn Q[T]() {} fn f() { @Q[int] {} }", api.ErrTemplate},
		{"struct P[T] { x: @T[int] } fn f(x: P[int]) {}", api.ErrTemplate},
		{"struct A[T] {} choice A__i {} fn f() { @A__i::X[int] }", api.ErrTemplate},
		{"fn f() { vec[@Q[int]]() }", api.ErrTemplate},
		{"fn f[T]() { @Q[T] {}; } fn g() { f[int]() }", api.ErrTemplate},

		// It has another number of arguments.
		{"struct P[T] {} fn f(x: @P) {}", api.ErrCount},
		{"struct P[T] {} fn f<'a>(x: @P<'a>) {}", api.ErrCount},
		{"struct P[T] {} fn f(x: @P[int, int]) {}", api.ErrCount},
		{"struct P[T, U] {} fn f(x: Box[@P[int]]) {}", api.ErrCount},
		{"struct P[T] {} fn f() { @P {} }", api.ErrCount},
		{"choice C[T] { A } fn f() { @C::A }", api.ErrCount},
		{"choice C[T] { A } fn f() { @C::A[int, bool](1) }", api.ErrCount},
		{"fn g[T]() {} fn f() { @g() }", api.ErrCount},
		{"fn g[T]() {} fn f() { @g[int, bool]() }", api.ErrCount},
		{"struct P[T] {} struct Q[T] {} fn f(x: P[@Q]) {}", api.ErrCount},
		{"struct P[T] { x: @P } fn f(x: P[int]) {}", api.ErrCount},
		{"struct Q[T] {} struct Q__i[T] {} struct P[T] { x: T } fn f(x: P[@Q[int]]) {}", api.ErrCount},
		{"struct Q[T] {} struct Q__i[T] {} struct P[A, B] { x: A, y: &B } fn f(x: P[int, Vec[Box[@Q[int]]]]) {}", api.ErrCount},
		{"struct Q[T] {} struct Q__i[T] {} struct P[T] { x: @Q } fn f(x: P[Q[int]]) {}", api.ErrCount},

		// An argument isn't plain.
		{"struct P[T] {} fn f(x: P[@&int]) {}", api.ErrPlain},
		{"struct P[T] {} fn f(x: P[@&'a mut int]) {}", api.ErrPlain},
		{"struct P[T] {} fn f(x: P[@Vec[Box[&int]]]) {}", api.ErrPlain},
		{"struct P[T] {} struct S<'a> {} fn f(x: P[@S]) {}", api.ErrPlain},
		{"struct P[T] {} struct S<'a> {} struct S {} fn f(x: P[@S]) {}", api.ErrPlain},
		{"struct P[T] {} choice S<'a> {} fn f(x: P[@Box[S]]) {}", api.ErrPlain},
		{"struct P[T] {} fn f(x: P[@S<'a>]) {}", api.ErrPlain},
		{"struct P[T] {} fn f(x: P[@Vec[S<'a>]]) {}", api.ErrPlain},
		{"struct P[T] {} fn f(x: P[@P[int]<'a>]) {}", api.ErrPlain},
		{"struct P[T] {} struct R[T]<'a> {} fn f(x: P[@R[int]]) {}", api.ErrPlain},
		{"struct P[T] {} struct R[T]<'a> {} fn f(x: P[@Box[R[int]]]) {}", api.ErrPlain},
		{"struct P[T] {} struct R[T]<'a> {} fn f(x: R[int], y: P[@R__i]) {}", api.ErrPlain},
		{"struct P[T] {} choice R[T]<'a> {} fn f(x: P[R__i], y: R[int]) {} fn g(x: P[@R__i]) {}", api.ErrPlain},
		{"struct P[T] { x: Z[T] } struct Z[T] {} struct R[T]<'a> {} fn f(x: P[@R__i], y: R[int]) {}", api.ErrPlain},
		{"struct M[A, B] {} fn f(x: M[int, @&int]) {}", api.ErrPlain},
		{"struct M[A, B] {} fn f(x: M[@&int, &bool]) {}", api.ErrPlain},
		{"fn g[T]() {} fn f() { g[@&int]() }", api.ErrPlain},
		{"choice C[T] {} fn f() { C::A[@&int](1); C[&int] {} }", api.ErrPlain},
		{"struct P[T] {} fn f() { P[@&int] {}; }", api.ErrPlain},
		{"struct P[T] { x: P[@Box[&T]] } fn f(x: P[int]) {}", api.ErrPlain},

		// The first one, in the order in which nodes are met, and at one node.
		{"struct P[T] {} fn f(x: P[@Q[int], int]) {}", api.ErrTemplate},
		{"struct P[T] {} fn f(x: @P[&int, int]) {}", api.ErrCount},
		{"struct P[T] {} fn f(x: P[&@P]) {}", api.ErrCount},
		{"fn id[T]() {} fn f() { id(@Q[int] {}) }", api.ErrTemplate},
		{"struct P[T] {} fn f() { P { x: id(@C::A[int]) } }", api.ErrTemplate},
		{"choice C[T] {} fn f() { C::A(1, @Q[int] {}) }", api.ErrTemplate},
		{"fn g[A, B]() {} fn f() { g[int](@C::A[int]) }", api.ErrTemplate},
		{"struct P[T] { x: Q[T] } fn f(x: P[int]) {} fn g(x: @P) {}", api.ErrCount},
		{"struct P[T] { x: Q[T] } fn f(x: P[int], y: @Z[int]) {}", api.ErrTemplate},
		{"struct A[T] { x: B } struct B[T] { x: @Q[T] } fn f(x: B[int], y: A[int]) {}", api.ErrTemplate},
		{"fn f() -> @Q[int] { P[&int] {} } struct P[T] {}", api.ErrTemplate},
		{"fn f() { if a { @P[int] {} } else { Q[int] {} } }", api.ErrTemplate},
		{"fn f() { let x: @P[int] = Q[int] {}; }", api.ErrTemplate},
		{"fn f(x: @P[int]) -> Q[int] {}", api.ErrTemplate},
		{"struct P[T] {} fn f(x: P[@&int], y: Q[int]) {}", api.ErrPlain},
	}
}
