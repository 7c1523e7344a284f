package sig_test

import (
	"math"
	"slices"
	"strings"
	"testing"

	"borrowdale/api"
	"borrowdale/kind"
	"borrowdale/sample"
	"borrowdale/sig"
)

// rows is the chapter's table: of each built-in its text for int and Vec[&'4 R<'5>], and the regions 7 and 8, with what it needs.
var rows = []struct {
	name        string
	types, regs int
	text, other string
}{
	{"at", 1, 1, "(&'7 Vec[int], int) -> &'7 int", "(&'7 Vec[Vec[&'4 R<'5>]], int) -> &'7 Vec[&'4 R<'5>]"},
	{"at_mut", 1, 1, "(&'7 mut Vec[int], int) -> &'7 mut int", "(&'7 mut Vec[Vec[&'4 R<'5>]], int) -> &'7 mut Vec[&'4 R<'5>]"},
	{"box", 1, 0, "(int) -> Box[int]", "(Vec[&'4 R<'5>]) -> Box[Vec[&'4 R<'5>]]"},
	{"len", 1, 1, "(&'7 Vec[int]) -> int", "(&'7 Vec[Vec[&'4 R<'5>]]) -> int"},
	{"pop", 1, 1, "(&'7 mut Vec[int]) -> int", "(&'7 mut Vec[Vec[&'4 R<'5>]]) -> Vec[&'4 R<'5>]"},
	{"print", 0, 0, "(int) -> unit", "(int) -> unit"},
	{"push", 1, 1, "(&'7 mut Vec[int], int) -> unit", "(&'7 mut Vec[Vec[&'4 R<'5>]], Vec[&'4 R<'5>]) -> unit"},
	{"replace", 1, 1, "(&'7 mut int, int) -> int", "(&'7 mut Vec[&'4 R<'5>], Vec[&'4 R<'5>]) -> Vec[&'4 R<'5>]"},
	{"swap", 1, 2, "(&'7 mut int, &'8 mut int) -> unit", "(&'7 mut Vec[&'4 R<'5>], &'8 mut Vec[&'4 R<'5>]) -> unit"},
	{"unbox", 1, 0, "(Box[int]) -> int", "(Box[Vec[&'4 R<'5>]]) -> Vec[&'4 R<'5>]"},
	{"vec", 1, 0, "() -> Vec[int]", "() -> Vec[Vec[&'4 R<'5>]]"},
}

// others is names that no built-in has.
var others = []string{"", "a", "A", "At", "at ", " at", "atmut", "at_", "AT_MUT", "main", "boxes", "bo", "int", "Vec", "Box", "vec[", "drop", "set", "zzz", strings.Repeat("at", 100), "at\x00"}

// P9.2: the names of all built-ins, rising, and what each needs.
func TestBuiltinNames(t *testing.T) {
	var want []string
	for _, row := range rows {
		want = append(want, row.name)
		if types, regs, ok := sig.Needs(row.name); types != row.types || regs != row.regs || !ok {
			t.Errorf("%s needs %d, %d, %v", row.name, types, regs, ok)
		}
	}
	got := sig.Builtins()
	if !slices.Equal(got, want) || !slices.IsSorted(got) || len(got) != 11 {
		t.Error(got)
	}
	for i := range got {
		got[i] = "spoilt"
	}
	if !slices.Equal(sig.Builtins(), want) {
		t.Error("what is kept was handed out")
	}
	for _, name := range others {
		if types, regs, ok := sig.Needs(name); types != 0 || regs != 0 || ok {
			t.Errorf("%q needs %d, %d, %v", name, types, regs, ok)
		}
	}
}

// P9.2: built-ins' signatures; a number of regions that isn't theirs.
func TestBuiltin(t *testing.T) {
	for _, row := range rows {
		for of, text := range map[string]string{"int": row.text, "Vec[&'4 R<'5>]": row.other} {
			s, ok := sig.Builtin(row.name, sample.Type(of), []int{7, 8}[:row.regs])
			params, result, _ := strings.Cut(text[1:], ") -> ")
			want := api.Sig{Name: row.name, Regions: row.regs, Params: sample.Types(strings.ReplaceAll(params, ", ", ";")), Result: sample.Type(result)}
			if !ok || !same(s, want) {
				t.Errorf("%s of %s: %v %v", row.name, of, s, ok)
			}
		}
		for count := range 5 {
			s, ok := sig.Builtin(row.name, sample.Type("int"), []int{1, 2, 3, 4, 5}[:count])
			if ok != (count == row.regs) || !ok && !same(s, api.Sig{}) {
				t.Errorf("%s for %d regions: %v %v", row.name, count, s, ok)
			}
		}
	}
	for _, name := range others {
		for count := range 3 {
			if s, ok := sig.Builtin(name, sample.Type("int"), []int{1, 2}[:count]); ok || !same(s, api.Sig{}) {
				t.Errorf("%q: %v", name, s)
			}
		}
	}
	if s, ok := sig.Builtin("at", sample.Type("int"), []int{3}); !ok || s.Params[0].Region != 3 || s.Result.Region != 3 || s.Params[0].Unique || s.Result.Unique {
		t.Error("the example")
	}
}

// P9.2: regions are taken as they are, and so is the type; a type that isn't asked for isn't looked at.
func TestBuiltinAsItIs(t *testing.T) {
	for _, r := range []int{0, -1, 1, 2, 500, 501, math.MaxInt, math.MinInt} {
		for _, q := range []int{0, r, 1, -7} {
			s, ok := sig.Builtin("swap", sample.Type("&'1 Q<'2, '0>"), []int{r, q})
			want := api.Sig{Name: "swap", Regions: 2, Result: sample.Type("unit"), Params: []api.Type{{Kind: api.KRef, Unique: true, Region: r, Args: sample.Types("&'1 Q<'2, '0>")}, {Kind: api.KRef, Unique: true, Region: q, Args: sample.Types("&'1 Q<'2, '0>")}}}
			if !ok || !same(s, want) {
				t.Errorf("%d, %d: %v", r, q, s)
			}
		}
		s, ok := sig.Builtin("at_mut", sample.Type("T"), []int{r})
		if !ok || !kind.Same(s.Result, api.Type{Kind: api.KRef, Unique: true, Region: r, Args: sample.Types("T")}) {
			t.Errorf("%d: %v", r, s)
		}
	}
	for _, x := range []api.Type{{}, {Kind: 99, Name: "x", Region: 1, Unique: true, Regs: []int{1, 2}, Args: sample.Types("int;&'1 int")}, sample.Type("T<'1, '2>"), sample.Type("Box[T]"), sample.Within(90, sample.Type("&'1 int"))} {
		s, ok := sig.Builtin("replace", x, []int{5})
		if !ok || !same(s, api.Sig{Name: "replace", Regions: 1, Params: []api.Type{{Kind: api.KRef, Region: 5, Unique: true, Args: []api.Type{x}}, x}, Result: x}) {
			t.Errorf("of %v: %v", x, s)
		}
		s, ok = sig.Builtin("print", x, nil)
		if !ok || !same(s, of("print", 0, "int", "unit")) {
			t.Errorf("of %v: %v", x, s)
		}
	}
	for _, x := range append(sample.Endless(), sample.Doubled(100, sample.Type("int"))) {
		for _, name := range sig.Builtins() {
			_, regs, _ := sig.Needs(name)
			sig.Builtin(name, x, make([]int, regs))
		}
		if s, ok := sig.Builtin("print", x, []int{}); !ok || !same(s, of("print", 0, "int", "unit")) {
			t.Error("its type is looked at")
		}
	}
}

// What is answered shares no memory with the argument, and nothing of it with the rest.
func TestBuiltinMemory(t *testing.T) {
	for _, row := range rows {
		x := sample.Type("&'1 Q<'2, '3>")
		regs := []int{7, 8}[:row.regs]
		s, _ := sig.Builtin(row.name, x, regs)
		want := clone(s)[0]
		for i := range s.Params {
			sample.SpoilType(&s.Params[i])
			if i+1 < len(s.Params) && !kind.Same(s.Params[i+1], want.Params[i+1]) {
				t.Errorf("%s: two parameters share memory", row.name)
			}
		}
		if !kind.Same(s.Result, want.Result) {
			t.Errorf("%s: the result shares memory with the parameters", row.name)
		}
		sample.SpoilType(&s.Result)
		if !kind.Same(x, sample.Type("&'1 Q<'2, '3>")) || !slices.Equal(regs, []int{7, 8}[:row.regs]) {
			t.Errorf("%s: its arguments are written into", row.name)
		}
		s, _ = sig.Builtin(row.name, x, regs)
		sample.SpoilType(&x)
		for i := range regs {
			regs[i] = -99
		}
		if !same(s, want) {
			t.Errorf("%s hangs on its arguments", row.name)
		}
	}
}
