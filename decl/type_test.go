package decl_test

import (
	"slices"
	"strconv"
	"testing"

	"borrowdale/api"
	"borrowdale/decl"
	"borrowdale/kind"
	"borrowdale/parse"
	"borrowdale/sample"
	"borrowdale/tree"
)

// named is what the trees of types name here.
func named() []api.Data {
	return []api.Data{structOf("E", 0, "int"), structOf("L", 1, "&'1 int"), choiceOf("T", 2, "A", "B &'1 &'2 int"), structOf("M", 20, ""), structOf("L", 3, "")}
}

// typeOf is what Type answers of a source.
func typeOf(t *testing.T, s string, regions []string, fresh int) (api.Type, int, api.Fault) {
	t.Helper()
	n, f := parse.Type(s)
	if f != (api.Fault{}) {
		t.Fatalf("%s: %v", s, f)
	}
	return decl.Type(named(), n, regions, fresh)
}

// P8.1: the type of each kind of tree, and the next number that is free.
func TestType(t *testing.T) {
	for _, c := range []struct {
		source string
		fresh  int
		want   string
		next   int
	}{
		{"int", 1, "int", 1}, {"bool", 7, "bool", 7}, {"unit", 1, "unit", 1},
		{"int", 0, "int", 0}, {"int", -5, "int", -5}, {"int", 501, "int", 501}, {"int", 1 << 62, "int", 1 << 62}, {"int", -1 << 63, "int", -1 << 63},
		{"Box[int]", 1, "Box[int]", 1}, {"Vec[Box[unit]]", 1, "Vec[Box[unit]]", 1},
		{"&int", 1, "&'1 int", 2}, {"&int", 9, "&'9 int", 10}, {"&mut bool", 1, "&'1 mut bool", 2}, {"&&mut int", 4, "&'4 &'5 mut int", 6},
		{"&'a int", 5, "&'1 int", 5}, {"&'b mut int", 5, "&'2 mut int", 5}, {"&'a &'c int", 0, "&'1 &'3 int", 0}, {"&'c mut &'c int", -1, "&'3 mut &'3 int", -1},
		{"&'b &int", 3, "&'2 &'3 int", 4}, {"& &'b &mut int", 3, "&'3 &'2 &'4 mut int", 5},
		{"E", 1, "E", 1}, {"E", 0, "E", 0}, {"E", -1 << 63, "E", -1 << 63}, {"E", 600, "E", 600}, {"Vec[E]", 0, "Vec[E]", 0},
		{"L", 4, "L<'4>", 5}, {"L<'b>", 4, "L<'2>", 4}, {"L<'b>", 0, "L<'2>", 0}, {"T", 4, "T<'4, '5>", 6}, {"T<'c, 'a>", 4, "T<'3, '1>", 4}, {"T<'c, 'c>", 0, "T<'3, '3>", 0},
		{"&Vec[&mut T]", 2, "&'2 Vec[&'3 mut T<'4, '5>]", 6}, {"&Box[&'a L]", 2, "&'2 Box[&'1 L<'3>]", 4}, {"&'a Box[L<'b>]", 2, "&'1 Box[L<'2>]", 2},
		{"M", 1, "M<'1, '2, '3, '4, '5, '6, '7, '8, '9, '10, '11, '12, '13, '14, '15, '16, '17, '18, '19, '20>", 21},
		{"&int", 500, "&'500 int", 501}, {"&&int", 499, "&'499 &'500 int", 501}, {"T", 499, "T<'499, '500>", 501}, {"&L", 499, "&'499 L<'500>", 501}, {"&'a L<'b>", 501, "&'1 L<'2>", 501},
	} {
		got, next, f := typeOf(t, c.source, []string{"'a", "'b", "'c", "'a", "'b"}, c.fresh)
		if f != (api.Fault{}) || next != c.next || !sameType(got, sample.Type(c.want)) {
			t.Errorf("%s, from %d on: %s, %d, %v", c.source, c.fresh, kind.Text(got), next, f)
		}
	}
}

// P8.1: each error of a tree's type, at its node; the first one, where there are several.
func TestTypeErrors(t *testing.T) {
	seen := map[api.Errno]int{}
	for _, c := range []struct {
		source string
		fresh  int
		want   api.Errno
	}{
		{"@U", 1, api.ErrType}, {"Box[@U]", 1, api.ErrType}, {"&'a mut Vec[@U]", 1, api.ErrType}, {"@U<'a>", 1, api.ErrType}, {"@U<'z>", 1, api.ErrType}, {"@e", 1, api.ErrType}, {"@B", 1, api.ErrType},
		{"@E[int]", 1, api.ErrType}, {"Vec[@E[int, bool]]", 1, api.ErrType}, {"@L[int]<'a>", 1, api.ErrType}, {"@L[int]<'z>", 1, api.ErrType}, {"@L[int]<'a, 'a>", 1, api.ErrType}, {"@L[U]", 0, api.ErrType}, {"@U[U]<'z>", 1, api.ErrType}, {"@E[&'z int]", 1, api.ErrType},
		{"@&'z int", 1, api.ErrRegion}, {"@&'z mut int", 1, api.ErrRegion}, {"& @&'z int", 1, api.ErrRegion}, {"Box[@&'z int]", 1, api.ErrRegion}, {"@&'z &'y int", 1, api.ErrRegion}, {"@&'A int", 1, api.ErrRegion},
		{"L<@'z>", 1, api.ErrRegion}, {"T<'a, @'z>", 1, api.ErrRegion}, {"T<@'z, 'a>", 1, api.ErrRegion}, {"T<@'z, 'y>", 1, api.ErrRegion}, {"&'a Vec[L<@'z>]", 1, api.ErrRegion},
		{"@E<'a>", 1, api.ErrRegion}, {"@L<'a, 'b>", 1, api.ErrRegion}, {"@T<'a>", 1, api.ErrRegion}, {"@T<'a, 'b, 'a>", 1, api.ErrRegion}, {"@L<'a, 'b, 'a>", 1, api.ErrRegion}, {"@T<'z>", 1, api.ErrRegion}, {"Box[@E<'z>]", 1, api.ErrRegion},
		{"@&int", 0, api.ErrRegion}, {"@&mut int", -1, api.ErrRegion}, {"@&int", -1 << 63, api.ErrRegion}, {"&'a @&int", 0, api.ErrRegion}, {"@&&'z int", 0, api.ErrRegion}, {"@L", 0, api.ErrRegion}, {"@T", -7, api.ErrRegion}, {"Vec[@M]", 0, api.ErrRegion}, {"&'b L<@'z>", 0, api.ErrRegion},
		{"@&'z U", 1, api.ErrRegion}, {"@&U", 0, api.ErrRegion}, {"@&'z E[int]", 1, api.ErrRegion}, {"&'a @U", 0, api.ErrType}, {"& @&'z U", 1, api.ErrRegion},
		{"@&int", 501, api.ErrType}, {"@&mut int", 1 << 62, api.ErrType}, {"@&int", 1<<63 - 1, api.ErrType}, {"@L", 501, api.ErrType}, {"@T", 500, api.ErrType}, {"@T", 501, api.ErrType}, {"@M", 482, api.ErrType}, {"@M", 1<<63 - 1, api.ErrType},
		{"@&'z int", 501, api.ErrRegion}, {"@U", 501, api.ErrType}, {"@T<'a>", 501, api.ErrRegion}, {"&'a @U", 501, api.ErrType}, {"@& U", 501, api.ErrType}, {"& @U", 500, api.ErrType}, {"& @&'z int", 500, api.ErrRegion}, {"@&&'z int", 501, api.ErrType},
	} {
		s, at := sample.Marked(c.source)
		seen[c.want]++
		got, next, f := typeOf(t, s, []string{"'a", "'b"}, c.fresh)
		if f != (api.Fault{Kind: c.want, At: at}) || next != c.fresh || !sameType(got, api.Type{}) {
			t.Errorf("%s, from %d on: %v, %d, %v", c.source, c.fresh, got, next, f)
		}
	}
	if len(seen) != 2 {
		t.Error("not all errors")
	}
	if _, _, f := typeOf(t, "&'a int", nil, 1); f != (api.Fault{Kind: api.ErrRegion}) {
		t.Errorf("no regions: %v", f)
	}
	if _, _, f := typeOf(t, "L", []string{"'a"}, 0); f != (api.Fault{Kind: api.ErrRegion}) {
		t.Errorf("left out: %v", f)
	}
}

// P8.1: a region's number is its place in the list, of two alike the first, up to 500.
func TestTypeRegions(t *testing.T) {
	var regions []string
	for i := range 510 {
		regions = append(regions, "'r"+strconv.Itoa(i+1))
	}
	regions[300], regions[505] = "'r7", "'r8"
	before := slices.Clone(regions)
	for r := 1; r <= 512; r++ {
		name := "'r" + strconv.Itoa(r)
		want := r
		if r == 301 || r == 506 || r > 510 {
			want = 0
		}
		for _, s := range []string{"&" + name + " int", "Vec[L<" + name + ">]"} {
			got, next, f := typeOf(t, s, regions, 3)
			regs := kind.Regions(got)
			switch {
			case want == 0:
				if f.Kind != api.ErrRegion || next != 3 {
					t.Errorf("%s: %v %v", s, got, f)
				}
			case want > 500:
				if f.Kind != api.ErrType || next != 3 {
					t.Errorf("%s: %v %v", s, got, f)
				}
			case f != (api.Fault{}) || next != 3 || !slices.Equal(regs, []int{want}):
				t.Errorf("%s: %v %v", s, got, f)
			}
		}
	}
	if !slices.Equal(regions, before) {
		t.Error("the list is written into")
	}
}

// P8.1: how deep a type may be; its tree may be deeper, where it ends with a name.
func TestTypeDepth(t *testing.T) {
	leaf := of(api.TInt, "", 0)
	region := of(api.TName, "L", 0, names("'a"))
	unknown := of(api.TName, "U", 0, names())
	ref := of(api.TRef, "'z", 0, leaf)
	type row struct {
		n    api.Node
		deep int
		want api.Fault
	}
	for _, c := range []row{
		{within(59, leaf), 60, api.Fault{}},
		{within(58, leaf), 59, api.Fault{}},
		{within(57, region), 58, api.Fault{}},
		{within(59, region), 60, api.Fault{}},
		{within(60, leaf), 0, api.Fault{Kind: api.ErrType, At: 7}},
		{within(60, region), 0, api.Fault{Kind: api.ErrType, At: 7}},
		{within(61, leaf), 0, api.Fault{Kind: api.ErrType, At: 7}},
		{within(100, leaf), 0, api.Fault{Kind: api.ErrType, At: 7}},
		{within(1000, unknown), 0, api.Fault{Kind: api.ErrType, At: 7}},
		{within(59, unknown), 0, api.Fault{Kind: api.ErrType, At: 66}},
		{within(57, ref), 0, api.Fault{Kind: api.ErrRegion, At: 64}},
		{of(api.TName, "E", 0, names(), within(100, leaf)), 0, api.Fault{Kind: api.ErrType, At: 7}},
		{within(2, of(api.TName, "E", 0, names("'a"), leaf, within(59, leaf))), 0, api.Fault{Kind: api.ErrType, At: 9}},
		{of(api.TRef, "'z", 0, within(70, leaf)), 0, api.Fault{Kind: api.ErrRegion, At: 7}},
		{within(9, of(api.TRef, "'z", 0, within(70, leaf))), 0, api.Fault{Kind: api.ErrRegion, At: 16}},
	} {
		n := numbered(c.n, 7)
		got, next, f := decl.Type(named(), n, []string{"'a"}, 3)
		deep := 0
		if f.Kind == api.OK {
			deep = kind.Depth(got)
		}
		if f != c.want || next != 3 || deep != c.deep || f.Kind == api.OK && !kind.Right(got) {
			t.Errorf("%d deep: %d deep, %d, %v", tree.Depth(n), deep, next, f)
		}
	}
}

// Of a type's tree no memory is shared, and it isn't written into; what is no type's tree has an end.
func TestTypeOdd(t *testing.T) {
	n, _ := parse.Type("&'a mut Vec[T<'a, 'b>]")
	before := tree.Copy(n)
	regions := []string{"'a", "'b"}
	l := named()
	got, _, _ := decl.Type(l, n, regions, 1)
	sample.SpoilType(&got)
	if again, _, _ := decl.Type(l, n, regions, 1); !tree.Same(n, before) || !alike(l, named()) || !sameType(again, sample.Type("&'1 mut Vec[T<'1, '2>]")) {
		t.Error("something is written into")
	}
	ring := []api.Node{{Kind: api.TBox, At: 3}}
	ring[0].Kids = ring
	if _, next, f := decl.Type(nil, ring[0], nil, 4); f != (api.Fault{Kind: api.ErrType, At: 3}) || next != 4 {
		t.Errorf("what lies in itself: %v", f)
	}
	leaf := of(api.TInt, "", 0)
	for _, n := range []api.Node{
		{}, {Kind: api.Program}, of(api.Int, "", 1), of(api.TBox, "", 0), of(api.TRef, "", 0), of(api.TRef, "", 2, leaf), of(api.TRef, "a", 0, leaf), of(api.TBox, "", 0, leaf, leaf), of(api.TInt, "", 0, leaf),
		of(api.TName, "E", 0), of(api.TName, "", 0, names()), of(api.TName, "E", 0, leaf), of(api.TName, "L", 0, names("a")), of(api.TName, "L", 0, names("")), of(api.TVec, "", 0, api.Node{}), of(-1, "", 0), of(api.TInt, "a", 0), of(api.TBox, "", 1, leaf), within(30, of(api.TBox, "", 0)),
	} {
		if got, next, f := decl.Type(named(), n, regions, 4); f != (api.Fault{}) || next != 0 || !sameType(got, api.Type{}) {
			t.Errorf("%v: %v, %d, %v", n, got, next, f)
		}
	}
	odd := []api.Data{{Name: "A", Regions: 1 << 62}, {Name: "B", Regions: -4}}
	for _, s := range []string{"A", "B", "A<'a>", "B<'a>"} {
		n, _ := parse.Type(s)
		for _, fresh := range []int{-1 << 63, -1, 0, 1, 500, 501, 1<<63 - 1} {
			decl.Type(odd, n, regions, fresh)
		}
	}
}
