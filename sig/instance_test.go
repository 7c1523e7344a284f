package sig_test

import (
	"math"
	"slices"
	"testing"

	"borrowdale/api"
	"borrowdale/sample"
	"borrowdale/sig"
)

// P9.4: others stand for regions.
func TestInstance(t *testing.T) {
	for _, c := range []struct {
		s    api.Sig
		regs []int
		want api.Sig
	}{
		{of("f", 0, "int", "bool"), nil, of("f", 0, "int", "bool")},
		{of("f", 0, "&'1 int", "&int", 1, 0), []int{}, of("f", 0, "&'1 int", "&int", 1, 0)},
		{of("f", 1, "&'1 int", "&'1 int"), []int{9}, of("f", 1, "&'9 int", "&'9 int")},
		{of("f", 2, "&'1 int;&'2 mut Box[Q<'2, '1>];int", "Vec[R<'2>]", 1, 2), []int{2, 1}, of("f", 2, "&'2 int;&'1 mut Box[Q<'1, '2>];int", "Vec[R<'1>]", 2, 1)},
		{of("f", 2, "&'1 &'2 int", "Q<'2, '1>", 1, 2, 2, 1, 1, 1), []int{5, 5}, of("f", 2, "&'5 &'5 int", "Q<'5, '5>", 5, 5, 5, 5, 5, 5)},
		{of("f", 2, "&'1 &'2 int", "Q<'2, '1>", 1, 2), []int{0, 500}, of("f", 2, "&&'500 int", "Q<'500, '0>", 0, 500)},
		{of("f", 2, "&'3 &'500 int;&int;R<'0>;Q<'1, '3>", "Q<'2, '4>", 0, 1, 3, 2, -1, 2), []int{8, 9}, of("f", 2, "&'3 &'500 int;&int;R<'0>;Q<'8, '3>", "Q<'9, '4>", 0, 8, 3, 9, -1, 9)},
		{of("at", 1, "&'1 Vec[int];int", "&'1 int"), []int{7}, of("at", 1, "&'7 Vec[int];int", "&'7 int")},
	} {
		regs, before := slices.Clone(c.regs), clone(c.s)[0]
		got, e := sig.Instance(c.s, c.regs)
		if e != api.OK || !same(got, c.want) || !same(modelInstance(c.s, c.regs), c.want) {
			t.Errorf("%v for %v: %v %d", c.s, c.regs, got, e)
		}
		if !same(c.s, before) || !slices.Equal(c.regs, regs) {
			t.Errorf("%v is written into", before)
		}
		spoil([]api.Sig{got})
		if !same(c.s, before) || !slices.Equal(c.regs, regs) {
			t.Errorf("%v: what is answered shares memory with it", before)
		}
		got, _ = sig.Instance(c.s, c.regs)
		spoil([]api.Sig{c.s})
		for i := range c.regs {
			c.regs[i] = -99
		}
		if !same(got, c.want) {
			t.Errorf("%v: what was answered hangs on it", before)
		}
	}
	s := of("f", 2, "&'1 int", "&'2 int", 1, 2)
	got, e := sig.Instance(s, []int{math.MaxInt, math.MinInt})
	if e != api.OK || got.Params[0].Region != math.MaxInt || got.Result.Region != math.MinInt || got.Where[0] != (api.Outlives{A: math.MaxInt, B: math.MinInt}) {
		t.Error(got, e)
	}
}

// P9.4: another number of regions.
func TestInstanceErrors(t *testing.T) {
	for _, regions := range []int{0, 1, 2, 3, 500, -1, 501, math.MinInt, math.MaxInt} {
		s := of("f", 0, "&'1 int", "&'2 int", 1, 2)
		s.Regions = regions
		for _, count := range []int{0, 1, 2, 3, 4, 499, 500, 501} {
			got, e := sig.Instance(s, make([]int, count))
			if count == regions && e != api.OK || count != regions && (e != api.ErrRegion || !same(got, api.Sig{})) {
				t.Errorf("%d for %d: %v %d", count, regions, got, e)
			}
		}
	}
}

// P9.5: signatures' texts.
func TestText(t *testing.T) {
	for _, c := range []struct {
		s    api.Sig
		want string
	}{
		{of("f", 0, "", "unit"), "fn f() -> unit"},
		{of("main", 0, "", "int"), "fn main() -> int"},
		{of("f", 1, "&'1 int", "&'1 mut int"), "fn f<'1>(&'1 int) -> &'1 mut int"},
		{of("f", 1, "", "int"), "fn f<'1>() -> int"},
		{of("long_Name9", 2, "&'1 mut Box[Q<'2, '1>];int;R<'2>", "Vec[Q<'1, '1>]"), "fn long_Name9<'1, '2>(&'1 mut Box[Q<'2, '1>], int, R<'2>) -> Vec[Q<'1, '1>]"},
		{of("f", 0, "int;bool", "S"), "fn f(int, bool) -> S"},
		{of("f", 2, "int", "S", 1, 2), "fn f<'1, '2>(int) -> S where '1: '2"},
		{of("f", 3, "", "unit", 1, 2, 3, 3, 1, 2), "fn f<'1, '2, '3>() -> unit where '1: '2, '3: '3, '1: '2"},
		{of("f", 12, "", "unit", 10, 123), "fn f<'1, '2, '3, '4, '5, '6, '7, '8, '9, '10, '11, '12>() -> unit where '10: '123"},
		{of("f", 0, "&'77 int;&int;R<'0>", "&mut int", -1, 0, 9, -456), "fn f(&'77 int, &int, R<'0>) -> &mut int where '-1: '0, '9: '-456"},
		{of("f", -1, "", "unit"), "fn f() -> unit"},
		{of("f", math.MinInt, "", "unit", math.MaxInt, math.MinInt), "fn f() -> unit where '9223372036854775807: '-9223372036854775808"},
		{api.Sig{Name: "", Result: sample.Type("int")}, "fn () -> int"},
		{api.Sig{Name: "f g\x00é", Result: sample.Type("int")}, "fn f g\x00é() -> int"},
		{api.Sig{Name: "f", Params: []api.Type{{Kind: api.KRef, Region: -3, Args: sample.Types("int")}, {Kind: api.KData, Name: "R", Regs: []int{-12}}}, Result: api.Type{Kind: api.KRef, Region: 501, Args: sample.Types("int")}}, "fn f(&'-3 int, R<'-12>) -> &'501 int"},
	} {
		before := clone(c.s)[0]
		if got := sig.Text(c.s); got != c.want || modelText(c.s) != c.want {
			t.Errorf("%s, not %s", got, c.want)
		}
		if !same(c.s, before) {
			t.Errorf("%s: it is written into", c.want)
		}
	}
	s, _ := sig.Builtin("at", sample.Type("int"), []int{3})
	if got := sig.Text(s); got != "fn at<'1>(&'3 Vec[int], int) -> &'3 int" {
		t.Error(got)
	}
	all := of("f", 500, "", "unit")
	if got := sig.Text(all); got != modelText(all) || len(got) != len("fn f<>() -> unit")+9*4+90*5+401*6-2 {
		t.Errorf("500 regions: %s", got)
	}
	more := of("f", 100000, "", "unit")
	if sig.Text(more) != modelText(more) {
		t.Error("100000 regions")
	}
}

// Of what isn't right there is an end.
func TestEnd(t *testing.T) {
	sig.Text(api.Sig{Name: "f", Regions: math.MaxInt})
	sig.Text(api.Sig{Name: "f", Regions: 1 << 40, Result: sample.Type("int")})
	for _, x := range append(sample.Endless(), sample.Doubled(100, sample.Type("int")), api.Type{}) {
		s := api.Sig{Regions: 1, Params: []api.Type{x}, Result: x, Where: pairs(1, 1)}
		sig.Text(s)
		if _, e := sig.Instance(s, []int{3}); e != api.OK {
			t.Error("there are just as many")
		}
		if _, e := sig.Instance(s, nil); e != api.ErrRegion {
			t.Error("there are too few")
		}
	}
}
