package sig_test

import (
	"math"
	"slices"
	"strings"
	"testing"

	"borrowdale/api"
	"borrowdale/sample"
	"borrowdale/sig"
)

// changed is the signature fn f<'1, '2>(&'1 int, Box[Q<'2, '1>]) -> R<'2> where '1: '2, with a change.
func changed(change func(s *api.Sig)) api.Sig {
	s := of("f", 2, "&'1 int;Box[Q<'2, '1>]", "R<'2>", 1, 2)
	change(&s)
	return s
}

// expects tells whether Right tells what it should, and writes into nothing.
func expects(t *testing.T, about string, s api.Sig, want bool) {
	t.Helper()
	l, before := sample.Declared(shared), clone(s)[0]
	if got := sig.Right(s, l); got != want {
		t.Errorf("%s: %v", about, got)
	}
	if !same(s, before) {
		t.Errorf("%s: it is written into", about)
	}
	if modelRight(s, l) != want {
		t.Errorf("%s: the model says so", about)
	}
}

// P9.1: a name is a word.
func TestRightName(t *testing.T) {
	for name, want := range map[string]bool{
		"f": true, "F": true, "z": true, "Z": true, "A": true, "a": true, "_": true, "_9": true, "f0": true, "a_b9Z": true,
		"int": true, "bool": true, "unit": true, "main": true, "at": true, "fn": true, "mut": true, "Box": true, "Int": true,
		strings.Repeat("n", 200): true, strings.Repeat("n", 201): false, "n" + strings.Repeat("9", 199): true, "n" + strings.Repeat("9", 200): false,
		"": false, "0": false, "9f": false, "0_": false, "f ": false, " f": false, "f-g": false, "f'": false, "f.g": false, "f@": false, "f[": false, "f`": false, "f{": false, "f/": false, "f:": false,
		"é": false, "fé": false, "f\x00": false, "f\xff": false, "\n": false, "f\n": false, "int ": false, "int[": false, "ſ": false, "К": false, "f٣": false,
	} {
		expects(t, "the name "+name, changed(func(s *api.Sig) { s.Name = name }), want)
	}
}

// P9.1: how many regions, parameters and Where there are.
func TestRightCounts(t *testing.T) {
	plain := of("f", 0, "", "int")
	for regions, want := range map[int]bool{0: true, 1: true, 20: true, 21: true, 499: true, 500: true, 501: false, -1: false, math.MaxInt: false, math.MinInt: false} {
		s := plain
		s.Regions = regions
		expects(t, "regions", s, want)
	}
	for count, want := range map[int]bool{0: true, 1: true, 19: true, 20: true, 21: false, 1000: false} {
		s := plain
		s.Params = slices.Repeat(sample.Types("int"), count)
		expects(t, "parameters", s, want)
	}
	for count, want := range map[int]bool{0: true, 1: true, 20: true, 21: true, 99: true, 100: true, 101: false, 1000: false} {
		s := plain
		s.Regions = 1
		s.Where = slices.Repeat(pairs(1, 1), count)
		expects(t, "Where", s, want)
	}
	expects(t, "empty lists", api.Sig{Name: "f", Result: sample.Type("int"), Params: []api.Type{}, Where: []api.Outlives{}}, true)
	expects(t, "all limits", api.Sig{Name: "f", Regions: 500, Result: sample.Type("&'500 W<" + strings.Repeat("'500, ", 19) + "'1>"), Params: slices.Repeat(sample.Types("&'500 int"), 20), Where: slices.Repeat(pairs(500, 500), 100)}, true)
}

// P9.1: the types of parameters, and the result's.
func TestRightTypes(t *testing.T) {
	deep := sample.Type("&'1 Q<'2, '1>")
	rows := map[string]bool{
		"int": true, "bool": true, "unit": true, "&'1 int": true, "&'2 mut int": true, "S": true, "R<'1>": true, "R<'2>": true, "Q<'1, '1>": true, "Q<'2, '1>": true, "Vec[Box[&'1 &'2 mut R<'2>]]": true,
		"&int": false, "&'3 int": false, "&'500 int": false, "&mut int": false, "&'1 &int": false, "&'1 &'3 mut int": false, "Box[&'3 int]": false, "Vec[&int]": false,
		"R<'0>": false, "R<'3>": false, "Q<'1, '0>": false, "Q<'3, '1>": false, "Q<'1, '3>": false, "Box[R<'3>]": false, "&'1 R<'0>": false,
		"T": false, "T<'1>": false, "s": false, "f": false, "Box[T]": false, "Vec[T]": false, "&'1 T": false, "&'1 mut T<'1>": false, "Vec[Box[&'1 mut T]]": false,
		"S<'1>": false, "R": false, "R<'1, '2>": false, "Q": false, "Q<'1>": false, "Q<'1, '2, '1>": false, "W": false, "W<'1>": false,
		"Box[S<'1>]": false, "Box[R]": false, "Vec[Q<'1>]": false, "Vec[R<'1, '1>]": false, "&'1 R": false, "&'2 mut Q<'1, '2, '2>": false, "Box[Vec[&'1 S<'1>]]": false,
	}
	for text, want := range rows {
		expects(t, "the result "+text, changed(func(s *api.Sig) { s.Result = sample.Type(text) }), want)
		expects(t, "the first parameter "+text, changed(func(s *api.Sig) { s.Params[0] = sample.Type(text) }), want)
		expects(t, "the last parameter "+text, changed(func(s *api.Sig) { s.Params[1] = sample.Type(text) }), want)
	}
	odd := []api.Type{
		{}, {Kind: 8}, {Kind: -1}, {Kind: api.KInt, Name: "S"}, {Kind: api.KInt, Region: 1}, {Kind: api.KUnit, Args: sample.Types("int")}, {Kind: api.KBool, Unique: true},
		{Kind: api.KRef, Region: 1}, {Kind: api.KRef, Region: 1, Args: sample.Types("int;int")}, {Kind: api.KRef, Region: -1, Args: sample.Types("int")}, {Kind: api.KRef, Region: 501, Args: sample.Types("int")}, {Kind: api.KBox}, {Kind: api.KVec, Args: []api.Type{{}}},
		{Kind: api.KBox, Region: 1, Args: sample.Types("int")}, {Kind: api.KData}, {Kind: api.KData, Name: "S", Args: sample.Types("int")}, {Kind: api.KData, Name: "9"}, {Kind: api.KData, Name: "R", Regs: []int{-1}}, {Kind: api.KData, Name: "R", Region: 1, Regs: []int{1}},
		sample.Within(59, deep), sample.Within(60, sample.Type("int")), sample.Within(99, sample.Type("int")), sample.Doubled(10, sample.Type("int")),
	}
	for _, x := range odd {
		expects(t, "a result that isn't right", changed(func(s *api.Sig) { s.Result = x }), false)
		expects(t, "a parameter that isn't right", changed(func(s *api.Sig) { s.Params[1] = x }), false)
	}
	expects(t, "60 deep", changed(func(s *api.Sig) {
		s.Result = sample.Within(58, deep)
		s.Params[0] = sample.Within(59, sample.Type("S"))
	}), true)
	expects(t, "no region", of("f", 0, "int;S;Box[Vec[S]]", "S"), true)
	for _, text := range []string{"&'1 int", "R<'1>", "Vec[&'1 int]", "&int", "R<'0>"} {
		expects(t, "no region for "+text, of("f", 0, text, "int"), false)
		expects(t, "no region for the result "+text, of("f", 0, "", text), false)
	}
	if s := of("f", 0, "", "S"); sig.Right(s, nil) || !sig.Right(of("f", 0, "", "int"), nil) {
		t.Error("nothing is declared")
	}
}

// P9.1: what a Where says.
func TestRightWhere(t *testing.T) {
	for _, c := range []struct {
		w    []int
		want bool
	}{
		{nil, true}, {[]int{1, 1}, true}, {[]int{1, 2}, true}, {[]int{2, 1}, true}, {[]int{2, 2}, true}, {[]int{1, 2, 1, 2, 2, 1}, true},
		{[]int{0, 1}, false}, {[]int{1, 0}, false}, {[]int{3, 1}, false}, {[]int{1, 3}, false}, {[]int{-1, 1}, false}, {[]int{2, -1}, false}, {[]int{math.MaxInt, 1}, false}, {[]int{1, math.MinInt}, false},
		{[]int{1, 2, 2, 3}, false}, {[]int{0, 0, 1, 2}, false}, {[]int{1, 2, 3, 1, 1, 1}, false},
	} {
		expects(t, "a Where", changed(func(s *api.Sig) { s.Where = pairs(c.w...) }), c.want)
	}
	expects(t, "a Where without regions", of("f", 0, "", "int", 1, 1), false)
}

// P9.1: there is an end, whatever a signature has.
func TestRightEnd(t *testing.T) {
	if sig.Right(api.Sig{}, nil) || sig.Right(api.Sig{Name: "f"}, nil) {
		t.Error("no result")
	}
	for _, x := range append(sample.Endless(), sample.Doubled(100, sample.Type("int"))) {
		if sig.Right(api.Sig{Name: "f", Result: x}, sample.Declared(shared)) || sig.Right(api.Sig{Name: "f", Regions: 5, Params: []api.Type{x}, Result: sample.Type("int")}, sample.Declared(shared)) {
			t.Error("it is right")
		}
	}
}
