package decl_test

import (
	"slices"
	"strings"
	"testing"

	"borrowdale/api"
	"borrowdale/decl"
	"borrowdale/kind"
	"borrowdale/sample"
)

// some is declarations of all sorts, which are right.
func some() []api.Data {
	return placed(
		structOf("E", 0, ""),
		copying(structOf("P", 1, "int;&'1 Box[int]")),
		structOf("Q", 0, "int;bool"),
		structOf("U", 1, "&'1 mut int"),
		structOf("B", 0, "Box[int]"),
		choiceOf("O", 2, "N", "S &'2 int;&'1 mut &'2 int", "T int;Box[L<'2, '1>]"),
		structOf("L", 2, "O<'2, '1>"),
		choiceOf("V", 0, "A", "C int;Q", "D E;B"),
		structOf("W", 1, "V;U<'1>"),
		structOf("X", 1, "&'1 V;&'1 mut B;Q;E;P<'1>"),
		choiceOf("K", 0),
	)
}

// P8.1: what is copied, and what needs a drop; P8.2: what is copied needs no drop.
func TestCopyDrops(t *testing.T) {
	l := some()
	if f := decl.Right(l); f != (api.Fault{}) {
		t.Fatal(f)
	}
	for s, want := range map[string][2]bool{
		"int": {true, false}, "bool": {true, false}, "unit": {true, false},
		"&'1 int": {true, false}, "&'1 mut int": {false, false}, "&'1 Box[int]": {true, false}, "&'1 mut Box[int]": {false, false}, "&'1 &'1 mut int": {true, false},
		"Box[int]": {false, true}, "Vec[unit]": {false, true}, "Box[&'1 int]": {false, true},
		"E": {false, false}, "P<'1>": {true, false}, "Q": {false, false}, "U<'1>": {false, false}, "B": {false, true}, "O<'1, '2>": {false, true}, "L<'1, '2>": {false, true},
		"V": {false, true}, "W<'1>": {false, true}, "X<'1>": {false, false}, "K": {false, false}, "Z": {false, false}, "Z<'1>": {false, false}, "e": {false, false},
	} {
		if got := decl.Copy(l, sample.Type(s)); got != want[0] {
			t.Errorf("%s is copied: %v", s, got)
		}
		if got := decl.Drops(l, sample.Type(s)); got != want[1] {
			t.Errorf("%s needs a drop: %v", s, got)
		}
	}
	for _, x := range []api.Type{{}, {Kind: -1}, {Kind: 8}, {Kind: 100}} {
		if decl.Copy(l, x) || decl.Drops(l, x) || decl.Copy(nil, x) || decl.Drops(nil, x) {
			t.Errorf("%v is copied, or needs a drop", x)
		}
	}
	if decl.Copy(nil, sample.Type("P<'1>")) || decl.Drops(nil, sample.Type("B")) || !decl.Copy(nil, sample.Type("int")) || !decl.Drops(nil, sample.Type("Vec[B]")) {
		t.Error("nothing is declared")
	}
}

// P8.1: declarations by name.
func TestFind(t *testing.T) {
	l := some()
	for i, d := range l {
		got, ok := decl.Find(l, d.Name)
		if !ok || !alike([]api.Data{got}, l[i:i+1]) {
			t.Errorf("%s: %v", d.Name, got)
		}
	}
	for _, s := range []string{"", "e", "EE", "int", "N", "f0"} {
		if got, ok := decl.Find(l, s); ok || !alike([]api.Data{got}, []api.Data{{}}) {
			t.Errorf("%q: %v", s, got)
		}
	}
	if _, ok := decl.Find(nil, "E"); ok {
		t.Error("it is in no list")
	}
	twice := []api.Data{structOf("A", 1, "int"), structOf("B", 2, "int"), structOf("A", 3, "bool"), {}, {At: 5}}
	if got, ok := decl.Find(twice, "A"); !ok || got.Regions != 1 {
		t.Errorf("not the first: %v", got)
	}
	if got, ok := decl.Find(twice, ""); !ok || got.At != 0 {
		t.Errorf("not the first without a name: %v", got)
	}
	odd := []api.Data{{Name: "Y", Choice: true, Copy: true, Regions: -7, At: -3, Parts: []api.Part{{Name: "A", Names: []string{"", "a"}, Types: []api.Type{{Kind: 9, Name: "x", Region: 5, Unique: true, Regs: []int{3}, Args: sample.Types("int;bool")}}}}}}
	if got, ok := decl.Find(odd, "Y"); !ok || !alike([]api.Data{got}, odd) {
		t.Errorf("what isn't right: %v", got)
	}
}

// P8.1: the types of a part's fields; P8.2: each of their regions is one of the KData's.
func TestPart(t *testing.T) {
	l := some()
	for _, c := range []struct {
		t    string
		part int
		want string
	}{
		{"E", 0, ""}, {"Q", 0, "int;bool"}, {"P<'1>", 0, "int;&'1 Box[int]"}, {"P<'500>", 0, "int;&'500 Box[int]"}, {"P<'0>", 0, "int;&Box[int]"},
		{"O<'3, '4>", 0, ""}, {"O<'3, '4>", 1, "&'4 int;&'3 mut &'4 int"}, {"O<'3, '4>", 2, "int;Box[L<'4, '3>]"}, {"O<'2, '1>", 1, "&'1 int;&'2 mut &'1 int"}, {"O<'2, '2>", 2, "int;Box[L<'2, '2>]"},
		{"L<'7, '8>", 0, "O<'8, '7>"}, {"V", 1, "int;Q"}, {"V", 2, "E;B"}, {"X<'9>", 0, "&'9 V;&'9 mut B;Q;E;P<'9>"},
	} {
		got, ok := decl.Part(l, sample.Type(c.t), c.part)
		if !ok || !sample.SameTypes(got, sample.Types(c.want)) {
			t.Errorf("%s %d: %v %v", c.t, c.part, got, ok)
		}
		for _, x := range got {
			for _, r := range kind.Regions(x) {
				if !slices.Contains(sample.Type(c.t).Regs, r) {
					t.Errorf("%s %d has the region %d", c.t, c.part, r)
				}
			}
		}
	}
	for _, c := range []struct {
		t    string
		part int
	}{
		{"E", -1}, {"E", 1}, {"E", 1 << 62}, {"E", -1 << 63}, {"O<'1, '2>", -1}, {"O<'1, '2>", 3}, {"K", 0}, {"K", -1}, {"Z", 0}, {"Z<'1>", 0},
		{"O", 0}, {"O<'1>", 0}, {"O<'1, '2, '3>", 0}, {"E<'1>", 0}, {"P", 0}, {"P<'1, '1>", 0}, {"int", 0}, {"unit", 0}, {"Box[E]", 0}, {"Vec[E]", 0}, {"&'1 E", 0},
	} {
		if got, ok := decl.Part(l, sample.Type(c.t), c.part); ok || len(got) > 0 {
			t.Errorf("%s %d: %v %v", c.t, c.part, got, ok)
		}
	}
	for _, x := range []api.Type{{}, {Name: "E"}, {Kind: api.KInt, Name: "E"}, {Kind: 8, Name: "E"}, {Kind: api.KRef, Name: "E", Args: sample.Types("E")}} {
		if got, ok := decl.Part(l, x, 0); ok || len(got) > 0 {
			t.Errorf("%v: %v %v", x, got, ok)
		}
	}
	if got, ok := decl.Part(nil, sample.Type("E"), 0); ok || len(got) > 0 {
		t.Error("it is in no list")
	}
}

// P8.1: how regions vary.
func TestVariance(t *testing.T) {
	for _, c := range []struct {
		l    []api.Data
		want string // of each declaration its name and its regions' variances
	}{
		{[]api.Data{structOf("L", 1, "&'1 mut int;Box[L<'1>]")}, "L1"},
		{[]api.Data{structOf("M", 1, "&'1 mut &'1 int")}, "M2"},
		{[]api.Data{structOf("A", 2, "&'1 mut &'2 int")}, "A12"},
		{[]api.Data{structOf("A", 2, "&'2 mut &'1 int")}, "A21"},
		{[]api.Data{structOf("A", 3, "&'1 &'2 mut &'3 int")}, "A112"},
		{[]api.Data{structOf("A", 3, "&'1 mut &'2 &'3 int")}, "A122"},
		{[]api.Data{structOf("A", 3, "&'1 mut Box[Vec[&'2 mut Box[&'3 int]]]")}, "A122"},
		{[]api.Data{structOf("A", 2, "Box[&'1 mut Vec[int]];&'2 &'2 int")}, "A11"},
		{[]api.Data{choiceOf("A", 3, "N", "S &'1 int", "T int;&'1 mut &'3 int")}, "A112"},
		{[]api.Data{structOf("A", 0, "int"), structOf("B", 20, "")}, "A B" + strings.Repeat("1", 20)},
		{[]api.Data{structOf("A", 2, "B<'2, '1>"), structOf("B", 2, "&'1 mut &'2 int")}, "A21 B12"},
		{[]api.Data{structOf("B", 2, "&'1 mut &'2 int"), structOf("A", 2, "Vec[Box[B<'2, '1>]]")}, "B12 A21"},
		{[]api.Data{structOf("B", 2, "&'1 mut &'2 int"), structOf("A", 3, "&'3 B<'2, '1>")}, "B12 A211"},
		{[]api.Data{structOf("B", 2, "&'1 mut &'2 int"), structOf("A", 1, "B<'1, '1>")}, "B12 A2"},
		{[]api.Data{structOf("B", 1, "&'1 int"), structOf("A", 2, "&'1 mut B<'2>")}, "B1 A12"},
		{[]api.Data{structOf("B", 1, "&'1 int"), structOf("A", 2, "&'1 &'1 mut Box[B<'2>]")}, "B1 A12"},
		{[]api.Data{structOf("B", 1, "&'1 int"), structOf("A", 2, "&'1 B<'2>")}, "B1 A11"},
		{[]api.Data{structOf("A", 2, "Box[B<'1, '2>]"), structOf("B", 2, "Box[A<'2, '1>]")}, "A11 B11"},
		{[]api.Data{structOf("A", 2, "Box[B<'1, '2>]"), structOf("B", 2, "Box[A<'2, '1>];&'1 mut &'2 int")}, "A22 B22"},
		{[]api.Data{structOf("A", 2, "Box[B<'1, '2>]"), structOf("B", 2, "Box[A<'1, '2>];&'1 mut &'2 int")}, "A12 B12"},
		{[]api.Data{structOf("A", 3, "&'1 int;Box[A<'2, '3, '1>];&'1 mut &'3 int")}, "A222"},
		{[]api.Data{structOf("A", 2, "Box[B<'1>];&'2 int"), structOf("B", 1, "&'1 mut A<'1, '1>")}, "A21 B2"},
		{[]api.Data{structOf("A", 1, "&'1 mut A<'1>")}, "A2"},
		{[]api.Data{structOf("A", 1, "&'1 A<'1>")}, "A1"},
	} {
		if f := decl.Right(c.l); f != (api.Fault{}) {
			t.Errorf("%s: %v", c.want, f)
		}
		for _, w := range strings.Fields(c.want) {
			var want []int
			for _, v := range w[1:] {
				want = append(want, int(v-'0'))
			}
			if got := decl.Variance(c.l, w[:1]); !slices.Equal(got, want) {
				t.Errorf("%s: %s has %v", c.want, w, got)
			}
		}
		for _, s := range []string{"", "Z", "a", "N"} {
			if got := decl.Variance(c.l, s); len(got) > 0 {
				t.Errorf("%s: %q has %v", c.want, s, got)
			}
		}
	}
	if got := decl.Variance(nil, "A"); len(got) > 0 {
		t.Error("it is in no list")
	}
}

// What is answered shares no memory with an argument, and no argument is written into.
func TestMemory(t *testing.T) {
	l := some()
	before := clone(l)
	for _, d := range l {
		got, _ := decl.Find(l, d.Name)
		spoil([]api.Data{got})
		x := api.Type{Kind: api.KData, Name: d.Name, Regs: []int{3, 4}[:d.Regions]}
		for part := range d.Parts {
			fields, _ := decl.Part(l, x, part)
			for i := range fields {
				sample.SpoilType(&fields[i])
			}
		}
		v := decl.Variance(l, d.Name)
		for i := range v {
			v[i] = -99
		}
		for r, want := range []int{3, 4}[:d.Regions] {
			if x.Regs[r] != want {
				t.Errorf("%s: its type is written into", d.Name)
			}
		}
		decl.Copy(l, x)
		decl.Drops(l, x)
	}
	if decl.Right(l) != (api.Fault{}) || !alike(l, before) {
		t.Error("declarations are written into")
	}
	kept, _ := decl.Find(l, "O")
	types, _ := decl.Part(l, sample.Type("O<'3, '4>"), 1)
	spoil(l)
	if !alike([]api.Data{kept}, before[5:6]) || !sample.SameTypes(types, sample.Types("&'4 int;&'3 mut &'4 int")) {
		t.Error("what was answered hangs on the declarations")
	}
}
