package decl_test

import (
	"slices"
	"strconv"
	"strings"
	"testing"

	"borrowdale/api"
	"borrowdale/decl"
	"borrowdale/sample"
)

// faultOf is what Right tells of declarations that stand at 100, 110 and so on: the error, and which declaration it is.
func faultOf(t *testing.T, l []api.Data) (api.Errno, int) {
	t.Helper()
	placed(l...)
	before := clone(l)
	f := decl.Right(l)
	if !alike(l, before) {
		t.Errorf("%v is written into", before)
	}
	if f.Kind == api.OK {
		if f.At != 0 {
			t.Errorf("no fault, at %d", f.At)
		}
		return api.OK, -1
	}
	return f.Kind, (f.At - 100) / 10
}

// expects tells whether Right tells an error of a declaration.
func expects(t *testing.T, about string, l []api.Data, want api.Errno, which int) {
	t.Helper()
	if e, i := faultOf(t, l); e != want || i != which {
		t.Errorf("%s: %d of declaration %d, not %d of %d", about, e, i, want, which)
	}
}

// P8.1: what is right.
func TestRightTaken(t *testing.T) {
	for about, l := range map[string][]api.Data{
		"nothing":               nil,
		"no fields":             {structOf("S", 0, "")},
		"no cases":              {choiceOf("C", 0)},
		"a case without fields": {choiceOf("C", 0, "A", "B int;bool;unit")},
		"regions unused":        {structOf("S", 20, "")},
		"all kinds of types":    {structOf("S", 2, "int;bool;unit;&'1 int;&'2 mut bool;Box[unit];Vec[&'1 int];T<'2>"), choiceOf("T", 1, "A &'1 Box[S<'1, '1>]")},
		"names alike elsewhere": {structOf("S", 0, "int"), structOf("f0", 0, "int"), choiceOf("C", 0, "S", "C", "f0 int")},
		"20 regions":            {structOf("S", 20, "&'20 mut &'1 int")},
		"declared behind":       {structOf("S", 1, "T<'1, '1>"), structOf("T", 2, "&'2 int")},
		"itself behind a box":   {structOf("S", 1, "Box[S<'1>];Vec[S<'1>];&'1 S<'1>;&'1 mut S<'1>;Vec[Box[&'1 S<'1>]]")},
		"copied":                {copying(structOf("S", 1, "int;bool;unit;&'1 Vec[int];T<'1>")), copying(choiceOf("T", 1, "A", "B &'1 &'1 mut S<'1>"))},
		"a copy in none":        {structOf("T", 0, "S;Box[int]"), copying(structOf("S", 0, "int"))},
	} {
		expects(t, about, l, api.OK, -1)
	}
	long := strings.Repeat("n", 200)
	expects(t, "names of 200 letters", []api.Data{
		{Name: long, Parts: []api.Part{{Names: []string{long}, Types: sample.Types("int")}}},
		{Name: "C", Choice: true, Parts: []api.Part{{Name: long}}},
	}, api.OK, -1)
	expects(t, "empty lists", []api.Data{{Name: "S", Parts: []api.Part{{Names: []string{}, Types: []api.Type{}}}}, {Name: "C", Choice: true, Parts: []api.Part{}}, {Name: "D", Choice: true, Parts: []api.Part{{Name: "A", Names: []string{}, Types: []api.Type{}}}}}, api.OK, -1)
}

// wrongRow is a declaration with one error; S stands ahead of it, with one region, and T behind it, with two.
type wrongRow struct {
	about string
	d     api.Data
	want  api.Errno
}

// wrongRows is each error of a declaration by itself.
func wrongRows() []wrongRow {
	named := func(names ...string) api.Data {
		return api.Data{Name: "X", Parts: []api.Part{{Names: names, Types: make([]api.Type, len(names))}}}
	}
	filled := func(d api.Data) api.Data {
		for i := range d.Parts[0].Types {
			d.Parts[0].Types[i] = sample.Type("int")
		}
		return d
	}
	rows := []wrongRow{
		{"a name that is there ahead", structOf("S", 0, "int"), api.ErrTwice},
		{"a choice's, too", choiceOf("S", 0), api.ErrTwice},
		{"two cases of a name", choiceOf("X", 0, "A", "B", "A int"), api.ErrTwice},
		{"two fields of a name", filled(named("a", "b", "a")), api.ErrTwice},
		{"two parts without a name", api.Data{Name: "X", Parts: []api.Part{{}, {}}}, api.ErrTwice},
		{"two Names of a case", api.Data{Name: "X", Choice: true, Parts: []api.Part{{Name: "A"}, {Name: "B", Names: []string{"a", "a"}}}}, api.ErrTwice},
		{"21 regions", structOf("X", 21, ""), api.ErrType},
		{"a choice with 21 regions", choiceOf("X", 21), api.ErrType},
		{"regions below 0", structOf("X", -1, ""), api.ErrType},
		{"very many regions", structOf("X", 1<<62, ""), api.ErrType},
		{"very few", structOf("X", -1<<63, ""), api.ErrType},
		{"no part", api.Data{Name: "X"}, api.ErrType},
		{"two parts", api.Data{Name: "X", Parts: []api.Part{{}, {Name: "A"}}}, api.ErrType},
		{"a struct's part with a name", api.Data{Name: "X", Parts: []api.Part{{Name: "A"}}}, api.ErrType},
		{"more Names than types", api.Data{Name: "X", Parts: []api.Part{{Names: []string{"a", "b"}, Types: sample.Types("int")}}}, api.ErrType},
		{"fewer Names than types", api.Data{Name: "X", Parts: []api.Part{{Names: []string{"a"}, Types: sample.Types("int;int")}}}, api.ErrType},
		{"Names without types", filled(api.Data{Name: "X", Parts: []api.Part{{Names: []string{"a"}}}}), api.ErrType},
		{"types without Names", api.Data{Name: "X", Parts: []api.Part{{Types: sample.Types("int")}}}, api.ErrType},
		{"a choice with Names", api.Data{Name: "X", Choice: true, Parts: []api.Part{{Name: "A"}, {Name: "B", Names: []string{"a"}, Types: sample.Types("int")}}}, api.ErrType},
		{"a case without a name", choiceOf("X", 0, "A", ""), api.ErrType},
	}
	for _, s := range []string{"", "int", "bool", "unit", "1a", "a b", "a-", "é", strings.Repeat("n", 201)} {
		rows = append(rows,
			wrongRow{"the name " + s, structOf(s, 0, "int"), api.ErrType},
			wrongRow{"the choice's name " + s, choiceOf(s, 0, "A"), api.ErrType},
			wrongRow{"the field's name " + s, filled(named("a", s)), api.ErrType},
			wrongRow{"the case's name " + s, api.Data{Name: "X", Choice: true, Parts: []api.Part{{Name: "A"}, {Name: s}}}, api.ErrType})
	}
	for _, about := range []func(api.Type) api.Type{
		func(t api.Type) api.Type { return t },
		func(t api.Type) api.Type { return api.Type{Kind: api.KBox, Args: []api.Type{t}} },
		func(t api.Type) api.Type { return api.Type{Kind: api.KVec, Args: []api.Type{t}} },
		func(t api.Type) api.Type { return api.Type{Kind: api.KRef, Region: 2, Args: []api.Type{t}} },
		func(t api.Type) api.Type {
			return api.Type{Kind: api.KRef, Region: 1, Unique: true, Args: []api.Type{{Kind: api.KVec, Args: []api.Type{t}}}}
		},
	} {
		for _, x := range []api.Type{{}, {Kind: 8}, {Kind: api.KBox}, {Kind: api.KInt, Region: 1}, {Kind: api.KData, Name: "int"}, sample.Type("U"), sample.Type("U<'1>"), sample.Type("s<'1>"), {Kind: api.KData, Name: "S", Regs: []int{501}}, {Kind: api.KData, Name: "S", Regs: []int{-1}}, {Kind: api.KRef, Region: -1, Args: sample.Types("int")}, {Kind: api.KBox, Args: sample.Types("int;int")}} {
			rows = append(rows,
				wrongRow{"the type", structWith("X", 3, sample.Type("int"), about(x)), api.ErrType},
				wrongRow{"the case's type", api.Data{Name: "X", Choice: true, Regions: 3, Parts: []api.Part{{Name: "A"}, {Name: "B", Types: []api.Type{sample.Type("int"), about(x)}}}}, api.ErrType})
		}
		for _, x := range []string{"&int", "&'4 int", "&'500 mut int", "S<'0>", "S<'4>", "S<'500>", "S", "S<'1, '1>", "T<'1>", "T", "T<'1, '2, '3>", "X", "X<'1, '2>", "X<'1, '2, '4>", "&'1 &'4 int"} {
			rows = append(rows,
				wrongRow{"the region of " + x, structWith("X", 3, sample.Type("int"), about(sample.Type(x))), api.ErrRegion},
				wrongRow{"the case's region of " + x, api.Data{Name: "X", Choice: true, Regions: 3, Parts: []api.Part{{Name: "A"}, {Name: "B", Types: []api.Type{sample.Type("int"), about(sample.Type(x))}}}}, api.ErrRegion})
		}
	}
	return append(rows,
		wrongRow{"a region without any", structOf("X", 0, "&'1 int"), api.ErrRegion},
		wrongRow{"it holds itself", structOf("X", 1, "int;X<'1>"), api.ErrSize},
		wrongRow{"a choice that holds itself", choiceOf("X", 0, "A", "B int;X"), api.ErrSize},
		wrongRow{"a copy that holds itself", copying(choiceOf("X", 0, "A", "B X")), api.ErrSize},
		wrongRow{"a copy of a box", copying(structOf("X", 0, "int;Box[int]")), api.ErrCopy},
		wrongRow{"a copy of a vector", copying(structOf("X", 1, "Vec[&'1 int];int")), api.ErrCopy},
		wrongRow{"a copy of a unique reference", copying(choiceOf("X", 1, "A", "B int;&'1 mut int")), api.ErrCopy},
		wrongRow{"a copy of what isn't one", copying(structOf("X", 1, "int;S<'1>")), api.ErrCopy},
	)
}

// P8.1: each error of a declaration, alone, wherever it stands among others.
func TestRightErrors(t *testing.T) {
	seen := map[api.Errno]bool{}
	for _, r := range wrongRows() {
		seen[r.want] = true
		s, other := structOf("S", 1, "&'1 int"), choiceOf("T", 2, "A", "B &'1 &'2 int")
		expects(t, r.about, []api.Data{s, r.d, other}, r.want, 1)
		if r.want != api.ErrTwice || r.d.Name != "S" {
			expects(t, r.about, []api.Data{r.d, s, other}, r.want, 0)
			expects(t, r.about, []api.Data{s, other, r.d}, r.want, 2)
		}
	}
	if len(seen) != 5 {
		t.Errorf("%d errors", len(seen))
	}
	expects(t, "one name thrice", []api.Data{structOf("A", 0, ""), structOf("B", 0, ""), choiceOf("A", 0), structOf("A", 0, "")}, api.ErrTwice, 2)
}

// deepType is a type so deep, whose innermost is that of a text.
func deepType(deep int, s string) api.Type {
	t := sample.Type(s)
	for range deep - 1 {
		t = api.Type{Kind: api.KBox, Args: []api.Type{t}}
	}
	return t
}

// P8.1: a declaration's types may be 60 deep, and are looked at as far.
func TestRightDeep(t *testing.T) {
	for deep := 58; deep <= 100; deep++ {
		for s, want := range map[string]api.Errno{"int": api.OK, "T<'1, '2>": api.OK, "U": api.ErrType, "T": api.ErrRegion, "T<'1, '3>": api.ErrRegion} {
			which := 0
			if deep > 60 {
				want = api.ErrType
			}
			if want == api.OK {
				which = -1
			}
			l := []api.Data{structWith("S", 2, deepType(deep, s)), structOf("T", 2, "&'1 mut &'2 int")}
			expects(t, strconv.Itoa(deep)+" deep, "+s, l, want, which)
			if v := decl.Variance(l, "S"); want == api.OK && s != "int" && !slices.Equal(v, []int{1, 2}) {
				t.Errorf("%d deep: %v", deep, v)
			}
		}
	}
}

// P8.1: of two errors of one declaration the one named first is told; of two declarations the first one's, but that all are asked for ErrTwice to ErrRegion first, then for ErrSize, then for ErrCopy.
func TestRightOrder(t *testing.T) {
	order := []api.Errno{api.ErrTwice, api.ErrType, api.ErrRegion, api.ErrSize, api.ErrCopy}
	// add puts an error into a declaration of the name X, among whose fields there is room for all.
	add := func(d *api.Data, e api.Errno) {
		p := &d.Parts[0]
		field := func(name string, t api.Type) {
			p.Names, p.Types = append(p.Names, name), append(p.Types, t)
		}
		switch e {
		case api.ErrTwice:
			field("twice", sample.Type("int"))
			field("twice", sample.Type("int"))
		case api.ErrType:
			field("type", sample.Type("U"))
		case api.ErrRegion:
			field("region", sample.Type("&'9 int"))
		case api.ErrSize:
			field("size", api.Type{Kind: api.KData, Name: d.Name})
		case api.ErrCopy:
			d.Copy = true
			field("copy", sample.Type("Box[int]"))
		}
	}
	for i, a := range order {
		for j, b := range order {
			x := structOf("X", 0, "")
			if i != j {
				add(&x, b)
			}
			add(&x, a)
			expects(t, "two errors of one", []api.Data{x}, order[min(i, j)], 0)
			first, second := structOf("X", 0, ""), structOf("Y", 0, "")
			add(&first, a)
			add(&second, b)
			want, which := a, 0
			if max(i, 2) > max(j, 2) {
				want, which = b, 1
			}
			expects(t, "errors of two", []api.Data{first, second}, want, which)
			expects(t, "errors of two, and others", []api.Data{structOf("Z", 0, "X;Y"), first, structOf("V", 0, ""), second}, want, 1+2*which)
		}
	}
	twice := []api.Data{structOf("A", 0, "U"), structOf("A", 0, "")}
	expects(t, "a wrong one, and its name once more", twice, api.ErrType, 0)
	expects(t, "a type ahead of a region", []api.Data{structOf("A", 0, "&'5 int;U")}, api.ErrType, 0)
	expects(t, "a name ahead of a type", []api.Data{structOf("A", 0, "int"), choiceOf("A", 21, "A U", "A int")}, api.ErrTwice, 1)
	expects(t, "a name's first declaration tells its regions", []api.Data{structOf("A", 0, "B<'1>"), structOf("B", 1, ""), structOf("B", 0, "")}, api.ErrRegion, 0)
}

// P8.1: what holds what: in rings, through all ways of holding, and in very many ways.
func TestRings(t *testing.T) {
	for _, through := range []string{"%", "int;%", "Box[%]", "Vec[%]", "&'1 %", "&'1 mut %", "Box[&'1 %];int"} {
		held := through == "%" || through == "int;%"
		for count := 1; count <= 6; count++ {
			for from := range count {
				var l []api.Data
				for i := range count {
					way := "%"
					if i == from {
						way = through
					}
					name, next := "R"+strconv.Itoa(i), "R"+strconv.Itoa((i+1)%count)
					l = append(l, structOf(name, 1, strings.ReplaceAll(way, "%", next+"<'1>")))
				}
				ahead, behind := structOf("A", 1, "R0<'1>"), structOf("B", 1, "A<'1>;R0<'1>")
				want, which := api.OK, -1
				if held {
					want, which = api.ErrSize, 1
				}
				expects(t, "a ring with "+through, append(append([]api.Data{ahead}, l...), behind), want, which)
				slices.Reverse(l)
				expects(t, "a ring turned round with "+through, append(append([]api.Data{ahead}, l...), behind), want, which)
			}
		}
	}
	expects(t, "two rings, and a way from one to the other", []api.Data{
		structOf("A", 0, "B"), structOf("B", 0, "C;D"), structOf("C", 0, "E"), structOf("D", 0, "int"), structOf("E", 0, "C;F"), structOf("F", 0, "D"),
	}, api.ErrSize, 2)
	expects(t, "a case that holds through another one", []api.Data{choiceOf("A", 0, "N", "S Box[A];B"), choiceOf("B", 0, "N", "S int;A")}, api.ErrSize, 0)
}

// doubled is so many declarations each of which holds the next one twice; the last one has these fields.
func doubled(count int, copies bool, last string) []api.Data {
	var l []api.Data
	for i := range count - 1 {
		next := "D" + strconv.Itoa(i+1) + "<'1, '2>"
		l = append(l, structOf("D"+strconv.Itoa(i), 2, next+";"+next))
	}
	l = append(l, structOf("D"+strconv.Itoa(count-1), 2, last))
	for i := range l {
		l[i].Copy = copies
	}
	return l
}

// P8.1, rule 7: what is held in very many ways is gone through once.
func TestDoubled(t *testing.T) {
	for _, count := range []int{1, 2, 60, 3000} {
		top := sample.Type("D0<'7, '8>")
		plain, owning := doubled(count, true, "int;&'1 int"), doubled(count, false, "int;Vec[&'1 mut &'2 int]")
		expects(t, "each one twice", plain, api.OK, -1)
		expects(t, "each one twice, with a vector", owning, api.OK, -1)
		expects(t, "each one twice, in a ring", doubled(count, true, "D0<'1, '2>"), api.ErrSize, 0)
		if decl.Drops(plain, top) || !decl.Drops(owning, top) || !decl.Copy(plain, top) || decl.Copy(owning, top) {
			t.Errorf("%d of them: drops or copies", count)
		}
		if v := decl.Variance(plain, "D0"); !slices.Equal(v, []int{1, 1}) {
			t.Errorf("%d of them: %v", count, v)
		}
		if v := decl.Variance(owning, "D0"); !slices.Equal(v, []int{1, 2}) {
			t.Errorf("%d of them: %v", count, v)
		}
		if count > 2 {
			swapped := doubled(count, false, "&'1 mut &'2 int")
			swapped[count/2].Parts[0].Types[1].Regs = []int{2, 1}
			if v := decl.Variance(swapped, "D0"); !slices.Equal(v, []int{2, 2}) {
				t.Errorf("%d of them, turned round once: %v", count, v)
			}
		}
	}
}
