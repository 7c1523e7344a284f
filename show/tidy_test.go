package show_test

import (
	"math/rand"
	"slices"
	"strings"
	"testing"

	"borrowdale/api"
	"borrowdale/lex"
	"borrowdale/parse"
	"borrowdale/show"
	"borrowdale/tree"
)

// library is a tidy source.
const library = `fn find(v: &Vec[int], x: int) -> int {
    let mut i = 0;
    while i < len(v) {
        if *at(v, i) == x {
            return i;
        }
        i = i + 1;
    }
    -1
}

fn sort(v: &mut Vec[int]) {
    let mut i = 1;
    while i < len(&*v) {
        let mut j = i;
        while j > 0 && *at(&*v, j - 1) > *at(&*v, j) {
            let a = *at(&*v, j - 1);
            let b = replace(at_mut(&mut *v, j), a);
            *at_mut(&mut *v, j - 1) = b;
            j = j - 1;
        }
        i = i + 1;
    }
}

struct Queue[T] {
    front: Vec[T],
    back: Vec[T],
}

fn queue[T]() -> Queue[T] {
    Queue[T] { front: vec[T](), back: vec[T]() }
}

fn queue_take[T](q: &mut Queue[T]) -> Opt[T] {
    if len(&q.front) == 0 {
        while len(&q.back) > 0 {
            push(&mut q.front, pop(&mut q.back));
        }
    }
    if len(&q.front) == 0 {
        Opt::No[T]
    } else {
        Opt::One[T](pop(&mut q.front))
    }
}

choice List {
    Nil,
    Cons(int, Box[List]),
}

fn list_turn(l: List) -> List {
    let mut from = l;
    let mut to = List::Nil;
    loop {
        match from {
            List::Nil => break,
            List::Cons(n, rest) => {
                to = List::Cons(n, box(to));
                from = unbox(rest);
            },
        }
    }
    to
}

fn list_print(l: &List) {
    match l {
        List::Nil => (),
        List::Cons(n, rest) => {
            print(*n);
            list_print(&**rest);
        },
    }
}

fn tree_has(t: &Tree, n: int) -> bool {
    match t {
        Tree::Leaf => false,
        Tree::Node(a, k, b) => if n < *k {
            tree_has(&**a, n)
        } else if n > *k {
            tree_has(&**b, n)
        } else {
            true
        },
    }
}
`

// tidied tells whether a source is tidied as it is said, and that text is tidy.
func tidied(t *testing.T, s, want string) {
	t.Helper()
	got, f := show.Tidy(s)
	if f != (api.Fault{}) || got != want {
		t.Fatalf("%v:\n%.3000s\nnot\n%.3000s", f, got, want)
	}
	if again, f := show.Tidy(got); f != (api.Fault{}) || again != got {
		t.Fatalf("%v: tidied again\n%.3000s\nnot\n%.3000s", f, again, got)
	}
	n, _ := parse.Program(s)
	m, _ := parse.Program(got)
	if !tree.Same(tree.Bare(n), tree.Bare(m)) {
		t.Fatalf("%.3000s\nhas another tree", got)
	}
}

// gaps is what may stand between tokens.
var gaps = []string{" ", "\n", "\t \n\n", "/**/", "/* // ** ( */", "// */ {\n", " // \n // \n"}

// P5.1, P5.2
func TestTidy(t *testing.T) {
	tidied(t, library, library)
	l, _ := lex.Tokens(library)
	tidied(t, lex.Join(l), library)
	for _, gap := range gaps {
		var b strings.Builder
		for _, x := range l {
			b.WriteString(gap + " " + x.Text + " ")
		}
		tidied(t, b.String()+gap, library)
	}
	for s, want := range map[string]string{
		"": "", " \n\t": "", "// fn": "", "/* fn f() {} */": "",
		"fn f(){}":                             "fn f() {}\n",
		"fn f(){}fn g(){}":                     "fn f() {}\n\nfn g() {}\n",
		"\n\n\nfn f() {}\n\n\n\nfn g() {}":     "fn f() {}\n\nfn g() {}\n",
		"fn f(x: int,) { g(x,); A::B(x,) }":    "fn f(x: int) {\n    g(x);\n    A::B(x)\n}\n",
		"struct S[T,] { f: int }":              "struct S[T] {\n    f: int,\n}\n",
		"choice C { A(int,), B(), D, }":        "choice C {\n    A(int),\n    B,\n    D,\n}\n",
		"fn f() { S[int,] { f: 1, } }":         "fn f() {\n    S[int] { f: 1 }\n}\n",
		"fn f() { A::B() }":                    "fn f() {\n    A::B\n}\n",
		"fn f() { match x { A::B() => 1 } }":   "fn f() {\n    match x {\n        A::B => 1,\n    }\n}\n",
		"fn f() { match (x) { _ => (1) } }":    "fn f() {\n    match x {\n        _ => 1,\n    }\n}\n",
		"fn f() { ((a) + (b)) * (c); }":        "fn f() {\n    (a + b) * c;\n}\n",
		"fn f() { (a * b) + (c == d); }":       "fn f() {\n    a * b + (c == d);\n}\n",
		"fn f() { if a {}; if b {}; }":         "fn f() {\n    if a {}\n    if b {};\n}\n",
		"fn f() { if a {}; {} }":               "fn f() {\n    if a {}\n    {}\n}\n",
		"fn f() { (if a {}); (if b {}) }":      "fn f() {\n    if a {}\n    if b {}\n}\n",
		"fn f() { (if a {}).x; }":              "fn f() {\n    (if a {}).x;\n}\n",
		"fn f() { (loop {} + a).x; }":          "fn f() {\n    (loop {} + a).x;\n}\n",
		"fn f() { if (S {}) == (S {}) {} }":    "fn f() {\n    if (S {}) == (S {}) {}\n}\n",
		"fn f() { if (g(S {})) {} }":           "fn f() {\n    if g(S {}) {}\n}\n",
		"fn f() { while (break) {} }":          "fn f() {\n    while break {}\n}\n",
		"fn f() { while break a {} }":          "fn f() {\n    while (break a) {}\n}\n",
		"fn f() { break a == b }":              "fn f() {\n    break a == b\n}\n",
		"fn f() { break a == b == c }":         "fn f() {\n    (break a == b) == c\n}\n",
		"fn f() { - break a }":                 "fn f() {\n    -(break a)\n}\n",
		"fn f() { a + return b + c }":          "fn f() {\n    a + (return b + c)\n}\n",
		"fn f() { & & mut a; && &a }":          "fn f() {\n    &&mut a;\n    &&&a\n}\n",
		"fn f() { { { } } }":                   "fn f() {\n    {\n        {}\n    }\n}\n",
		"fn f(x: & & 'a mut int) -> & mut T{}": "fn f(x: &&'a mut int) -> &mut T {}\n",
	} {
		tidied(t, s, want)
	}
}

// P5.1, P5.2: what is shown is tidy: each program in lines.
func TestShownIsTidy(t *testing.T) {
	t.Parallel()
	for seed := range int64(2000) {
		if s, e := show.Program(newMaker(seed).program()); e == api.OK {
			tidied(t, s, s)
		}
	}
}

// P5.1: layer 2's and layer 4's faults, where these tell them.
func TestFaultsOfTidy(t *testing.T) {
	deep := strings.Repeat("-", 60)
	for s, want := range map[string]api.Fault{
		"fn f() { \x00 }": {Kind: api.ErrByte, At: 9}, "fn f() {}\r\n": {Kind: api.ErrByte, At: 9}, strings.Repeat(" ", api.MaxSource+1): {Kind: api.ErrByte, At: api.MaxSource},
		"fn f() { a | b }": {Kind: api.ErrToken, At: 11}, "fn f() {} /* */ /*": {Kind: api.ErrOpen, At: 16}, "fn f() { 9223372036854775808 }": {Kind: api.ErrBig, At: 9}, "fn # @": {Kind: api.ErrToken, At: 3},
		"fn": {Kind: api.ErrWant, At: 2}, "x": {Kind: api.ErrWant, At: 0}, " a": {Kind: api.ErrWant, At: 1}, "fn f() { a b }": {Kind: api.ErrWant, At: 11}, "fn f() {} }": {Kind: api.ErrWant, At: 10}, "fn f() { a < b < c }": {Kind: api.ErrWant, At: 15}, "struct S { f: int; }": {Kind: api.ErrWant, At: 17}, "fn f() { if S { a: 1 } {} }": {Kind: api.ErrWant, At: 17},
		"fn f() { " + deep + "a }": {Kind: api.ErrDeep, At: 66}, "fn f() { g(" + strings.Repeat("a,", 20000) + ") }": {Kind: api.ErrMany, At: 11 + 2*19990},
	} {
		_, told := parse.Program(s)
		if told != want {
			t.Errorf("layer 4: %v, not %v, of %.50q", told, want, s)
		}
		if text, f := show.Tidy(s); text != "" || f != want {
			t.Errorf("%v, not %v, of %.50q", f, want, s)
		}
	}
}

// P5.1: a tidy text of 65536 bytes is told, one of 65537 isn't: that is a fault at 0.
func TestLongTidy(t *testing.T) {
	for before, after := range map[string]string{
		"fn ": "(){}", "fn f(){": "}", "fn f(){let ": ";}", "struct ": "{}", "  fn f(){g[": "]()}fn g(){}", "choice C{A,": "}", "fn f(){loop{loop{match a{_=>b,": "=>c}}}}", "fn f(){ if ": "{}}",
	} {
		at := func(size int) string { return before + long(size) + after }
		first, f := show.Tidy(at(1))
		if f != (api.Fault{}) {
			t.Fatal(f, before)
		}
		most := api.MaxSource - len(first) + 1
		text, f := show.Tidy(at(most))
		if f != (api.Fault{}) || len(text) != api.MaxSource {
			t.Fatal(f, len(text), before)
		}
		tidied(t, at(most), text)
		tidied(t, text, text)
		for most++; len(at(most)) <= api.MaxSource; most++ {
			if text, f := show.Tidy(at(most)); text != "" || f != (api.Fault{Kind: api.ErrMany}) {
				t.Fatal(f, len(text), before)
			}
		}
	}
	wide := "fn f(){" + strings.Repeat("a;", 9900) + "}"
	if text, f := show.Tidy(wide); text != "" || f != (api.Fault{Kind: api.ErrMany}) {
		t.Error(f, len(text))
	}
}

// words is what is put into sources by chance.
const words = "( ) { } [ ] , ; : :: . -> => = == < + - * ! & && || if else while loop break continue return match let mut fn struct true _ a S 1 'a int Box"

// P5.1, P5.2: whatever source is tidied, tidied again is the same, and has the same tree; and where layer 4 tells a fault, that one is told.
func TestTidyByChance(t *testing.T) {
	t.Parallel()
	more := strings.Fields(words)
	wrong, right := 0, 0
	for seed := range int64(12000) {
		m := newMaker(seed)
		s, e := show.Program(list(api.Program, function(m.block(4)), m.item()))
		if e != api.OK {
			continue
		}
		for range 4 {
			source := changed(m.Rand, s, more)
			if _, told := parse.Program(source); told != (api.Fault{}) {
				wrong++
				if text, f := show.Tidy(source); text != "" || f != told {
					t.Fatalf("%v, not %v, of\n%s", f, told, source)
				}
				continue
			}
			right++
			text, f := show.Tidy(source)
			if f != (api.Fault{}) {
				t.Fatal(f, source)
			}
			tidied(t, source, text)
		}
	}
	t.Logf("%d wrong, %d right", wrong, right)
	if wrong < 5000 || right < 5000 {
		t.Errorf("%d wrong, %d right", wrong, right)
	}
}

// changed is a source with other gaps, some of its tokens left out, put in, or put into ( ).
func changed(r *rand.Rand, s string, more []string) string {
	var l []string
	tokens, _ := lex.Tokens(s)
	for _, x := range tokens {
		l = append(l, x.Text)
	}
	for range r.Intn(3) {
		i := r.Intn(len(l))
		switch r.Intn(5) {
		case 0:
			l = slices.Delete(l, i, i+1)
		case 1:
			l = slices.Insert(l, i, more[r.Intn(len(more))])
		case 2:
			l[i] = more[r.Intn(len(more))]
		case 3:
			l = slices.Replace(l, i, i+1, "(", l[i], ")")
		case 4:
			k := i + r.Intn(min(12, len(l)-i))
			l = slices.Insert(l, k+1, ")")
			l = slices.Insert(l, i, "(")
		}
	}
	var b strings.Builder
	for _, x := range l {
		b.WriteString(x + " ")
		if r.Intn(4) == 0 {
			b.WriteString(gaps[r.Intn(len(gaps))])
		}
	}
	return b.String()
}
