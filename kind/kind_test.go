package kind_test

import (
	"reflect"
	"slices"
	"strings"
	"testing"

	"borrowdale/api"
	"borrowdale/kind"
	"borrowdale/sample"
)

// clone is a type in new memory, without empty lists.
func clone(t api.Type) api.Type {
	t.Regs = append([]int(nil), t.Regs...)
	var args []api.Type
	for _, a := range t.Args {
		args = append(args, clone(a))
	}
	t.Args = args
	return t
}

// alike is whether two are the same type.
func alike(a, b api.Type) bool { return reflect.DeepEqual(clone(a), clone(b)) }

// spots is where a type's regions stand, in order.
func spots(t *api.Type) []*int {
	var l []*int
	if t.Kind == api.KRef {
		l = append(l, &t.Region)
	}
	for i := range t.Regs {
		l = append(l, &t.Regs[i])
	}
	for i := range t.Args {
		l = append(l, spots(&t.Args[i])...)
	}
	return l
}

// P7.1: what is right, each kind and each in the others.
func TestRight(t *testing.T) {
	for _, m := range stock() {
		if !kind.Right(m.t) {
			t.Errorf("%s isn't right", m.text)
		}
	}
	for _, m := range odd() {
		if kind.Right(m.t) {
			t.Errorf("%v is right", m.t)
		}
	}
	empty := api.Type{Kind: api.KInt, Regs: []int{}, Args: []api.Type{}}
	if !kind.Right(empty) || !kind.Right(api.Type{Kind: api.KBox, Regs: []int{}, Args: []api.Type{empty}}) {
		t.Error("no list and an empty one are one")
	}
}

// P7.1: each kind with something that it must not have, or with too little, wherever it lies.
func TestRightKinds(t *testing.T) {
	base := map[int]api.Type{
		api.KInt: aInt, api.KBool: aBool, api.KUnit: aUnit, api.KRef: ref(1, aInt), api.KBox: box(aInt), api.KVec: vec(aInt), api.KData: data("P", 1),
	}
	changes := map[string]func(x *api.Type){
		"Name":     func(x *api.Type) { x.Name = "Q" },
		"no Name":  func(x *api.Type) { x.Name = "" },
		"Region":   func(x *api.Type) { x.Region = 2 },
		"below":    func(x *api.Type) { x.Region = -1 },
		"Unique":   func(x *api.Type) { x.Unique = true },
		"Regs":     func(x *api.Type) { x.Regs = []int{0} },
		"no Regs":  func(x *api.Type) { x.Regs = nil },
		"Args":     func(x *api.Type) { x.Args = []api.Type{aBool} },
		"no Args":  func(x *api.Type) { x.Args = nil },
		"two Args": func(x *api.Type) { x.Args = []api.Type{aInt, aInt} },
		"bad Args": func(x *api.Type) { x.Args = []api.Type{{}} },
		"Kind 0":   func(x *api.Type) { x.Kind = 0 },
		"Kind 8":   func(x *api.Type) { x.Kind = 8 },
		"Kind -1":  func(x *api.Type) { x.Kind = -1 },
	}
	may := map[int]string{
		api.KInt:  "no Name, no Regs, no Args",
		api.KBool: "no Name, no Regs, no Args",
		api.KUnit: "no Name, no Regs, no Args",
		api.KRef:  "no Name, Region, Unique, no Regs, Args",
		api.KBox:  "no Name, no Regs, Args",
		api.KVec:  "no Name, no Regs, Args",
		api.KData: "Name, Regs, no Regs, no Args",
	}
	for k, b := range base {
		for what, change := range changes {
			x := clone(b)
			change(&x)
			want := slices.Contains(strings.Split(may[k], ", "), what)
			for _, y := range []api.Type{x, box(x), vec(x), ref(3, x), box(mut(0, x))} {
				if kind.Right(y) != want {
					t.Errorf("kind %d with %s: %v, not %v: %v", k, what, !want, want, y)
				}
			}
		}
	}
}

// P7.1: how deep a type may be.
func TestRightDepth(t *testing.T) {
	for _, last := range []api.Type{aInt, data("P", 1, 2)} {
		if deepest := within(api.MaxDepth-1, last); !kind.Right(deepest) || kind.Depth(deepest) != 60 {
			t.Error("60 deep isn't right")
		}
		for deep := api.MaxDepth + 1; deep <= 100; deep++ {
			x := within(deep-1, last)
			if kind.Right(x) || kind.Right(ref(0, within(deep-2, last))) || kind.Right(vec(within(deep-2, last))) {
				t.Errorf("%d deep is right", deep)
			}
		}
	}
}

// P7.1: which regions may be.
func TestRightRegions(t *testing.T) {
	for r, want := range map[int]bool{0: true, 1: true, 499: true, 500: true, 501: false, -1: false, 1 << 62: false, -1 << 63: false} {
		l := []api.Type{ref(r, aInt), mut(r, aInt), data("P", r), data("P", 1, r, 2), data("P", 1, 2, r), box(ref(r, aInt)), ref(1, ref(r, aInt))}
		for _, x := range l {
			if kind.Right(x) != want {
				t.Errorf("%v: not %v", x, want)
			}
		}
	}
	for n := range 30 {
		if kind.Right(data("P", make([]int, n)...)) != (n <= 20) {
			t.Errorf("%d of Regs", n)
		}
	}
}

// P7.1: which names may be.
func TestRightNames(t *testing.T) {
	for s, want := range map[string]bool{
		"P": true, "z": true, "A": true, "Z": true, "a": true, "_": true, "_1": true, "a0": true, "a9": true, "intt": true, "Int": true, "units": true, "bool_": true,
		"": false, "int": false, "bool": false, "unit": false, "0": false, "9a": false, "0P": false, "a b": false, " a": false, "a ": false, "a-": false, "é": false, "aé": false, "a\xff": false, "a'": false, "a<": false, "a:": false, "a/": false, "@": false, "[": false, "`": false, "{": false, "a\x00": false, "a.b": false, "\u0661": false, "a\u0661": false, "\u212a": false,
		strings.Repeat("a", 200): true, strings.Repeat("a", 201): false, strings.Repeat("a", 199) + "é": false, strings.Repeat("é", 100): false, strings.Repeat("a", 100000): false,
	} {
		if kind.Right(data(s)) != want || kind.Right(vec(data(s, 1))) != want {
			t.Errorf("%q: not %v", s, want)
		}
	}
	for c := range 256 {
		s := string([]byte{byte(c)})
		letter := strings.Contains("ABCDEFGHIJKLMNOPQRSTUVWXYZabcdefghijklmnopqrstuvwxyz_", s)
		digit := strings.Contains("0123456789", s)
		if kind.Right(data(s)) != letter || kind.Right(data("a"+s)) != (letter || digit) {
			t.Errorf("%q as a letter", s)
		}
	}
}

// P7.1: two types are the same just if they have the same, part by part.
func TestSame(t *testing.T) {
	var l []api.Type
	for _, m := range append(append(rows(), odd()...), stock()[:300]...) {
		l = append(l, m.t)
	}
	full := odd()[0].t
	for _, change := range []func(x *api.Type){
		func(x *api.Type) { x.Kind = api.KVec }, func(x *api.Type) { x.Name = "m" }, func(x *api.Type) { x.Region = 4 }, func(x *api.Type) { x.Unique = false },
		func(x *api.Type) { x.Regs = []int{6} }, func(x *api.Type) { x.Regs[1] = 7 }, func(x *api.Type) { x.Args = x.Args[:1] },
		func(x *api.Type) { x.Args[0].Args[0] = aBool }, func(x *api.Type) { x.Args[1].Regs[0]++ }, func(x *api.Type) { x.Args[1].Name = "Q" },
	} {
		x := clone(full)
		change(&x)
		l = append(l, x)
	}
	for i := range l {
		for j := range l {
			if want := alike(l[i], l[j]); kind.Same(l[i], clone(l[j])) != want {
				t.Errorf("%v and %v: not %v", l[i], l[j], want)
			}
		}
	}
	if !kind.Same(api.Type{Regs: []int{}, Args: []api.Type{}}, api.Type{}) {
		t.Error("no list and an empty one are one")
	}
}

// P7.1: types up to 100 deep may be asked of, and what they hold in many ways is gone through once.
func TestSameDeep(t *testing.T) {
	for deep := 1; deep <= 100; deep++ {
		if !kind.Same(within(deep-1, aInt), within(deep-1, aInt)) || kind.Same(within(deep-1, aInt), within(deep-1, aBool)) || kind.Same(within(deep-1, aInt), within(deep, aInt)) {
			t.Errorf("%d deep", deep)
		}
		a, b := sample.Doubled(deep, aInt), sample.Doubled(deep, aInt)
		if !kind.Same(a, b) || !kind.Same(a, a) || kind.Same(a, sample.Doubled(deep, aBool)) || deep > 1 && kind.Right(a) {
			t.Errorf("%d deep, each one twice", deep)
		}
		if got := kind.Depth(a); got != deep {
			t.Errorf("%d deep, each one twice: %d", deep, got)
		}
	}
	list := []api.Type{aInt, aInt, aBool}
	part := func(n int) api.Type { return api.Type{Args: []api.Type{{Args: list[:2]}, {Args: list[:n]}}} }
	if !kind.Same(part(2), part(2)) || kind.Same(part(2), part(3)) || kind.Same(part(3), part(2)) {
		t.Error("lists that begin at one place, and have other lengths")
	}
	met := func(a, b api.Type) api.Type { return api.Type{Args: []api.Type{a, b}} }
	x, y := met(aInt, aBool), met(aInt, aUnit)
	if kind.Same(met(x, x), met(clone(x), y)) || !kind.Same(met(x, y), met(clone(x), clone(y))) {
		t.Error("a list that is met with another one")
	}
}

// P7.1: a type's regions, how deep it is, and its text.
func TestTold(t *testing.T) {
	for _, m := range append(stock(), odd()...) {
		if got := kind.Regions(m.t); !slices.Equal(got, m.regs) {
			t.Errorf("%s %v has the regions %v, not %v", m.text, m.t, got, m.regs)
		}
		if got := kind.Depth(m.t); got != m.depth {
			t.Errorf("%s %v is %d deep, not %d", m.text, m.t, got, m.depth)
		}
		if got := kind.Text(m.t); m.text != "" && got != m.text {
			t.Errorf("%s has the text %s", m.text, got)
		}
	}
}

// P7.1: other regions for a type's.
func TestRetold(t *testing.T) {
	others := [][]int{nil, {}, {-4}, {11, 12}, {-1, 0, 501, 1 << 40}, make([]int, 100), {5, 4, 3, 2, 1, 0}}
	long := make([]int, 600)
	for i := range long {
		long[i] = 1000 - i
	}
	for _, m := range append(stock(), odd()...) {
		for _, l := range append(others, long) {
			erased, with, mapped := clone(m.t), clone(m.t), clone(m.t)
			for _, r := range spots(&erased) {
				*r = 0
			}
			for i, r := range spots(&with) {
				if i < len(l) {
					*r = l[i]
				}
			}
			for _, r := range spots(&mapped) {
				if *r >= 0 && *r < len(l) {
					*r = l[*r]
				}
			}
			if got := kind.Erase(m.t); !alike(got, erased) {
				t.Errorf("Erase of %v is %v", m.t, got)
			}
			if got := kind.With(m.t, l); !alike(got, with) {
				t.Errorf("With of %v, %v is %v", m.t, l, got)
			}
			if got := kind.Map(m.t, l); !alike(got, mapped) {
				t.Errorf("Map of %v, %v is %v", m.t, l, got)
			}
		}
	}
}

// P7.1: regions by hand.
func TestRetoldRows(t *testing.T) {
	x := mut(3, box(data("List", 1, 2)))
	for _, c := range []struct {
		got  api.Type
		want string
	}{
		{kind.Erase(x), "&mut Box[List<'0, '0>]"},
		{kind.With(x, nil), "&'3 mut Box[List<'1, '2>]"},
		{kind.With(x, []int{7}), "&'7 mut Box[List<'1, '2>]"},
		{kind.With(x, []int{0, 8}), "&mut Box[List<'8, '2>]"},
		{kind.With(x, []int{7, 8, 9, 10}), "&'7 mut Box[List<'8, '9>]"},
		{kind.Map(x, nil), "&'3 mut Box[List<'1, '2>]"},
		{kind.Map(x, []int{9, 8}), "&'3 mut Box[List<'8, '2>]"},
		{kind.Map(x, []int{9, 2, 1, 0}), "&mut Box[List<'2, '1>]"},
		{kind.Map(ref(0, aInt), []int{4}), "&'4 int"},
		{kind.With(aInt, []int{4}), "int"},
		{kind.With(vec(data("P")), []int{4}), "Vec[P]"},
	} {
		if got := kind.Text(c.got); got != c.want {
			t.Errorf("%s, not %s", got, c.want)
		}
	}
	if got := kind.With(x, []int{-5, -6}); got.Region != -5 || got.Args[0].Args[0].Regs[0] != -6 {
		t.Errorf("numbers below 0: %v", got)
	}
}

// P7.1: what is answered shares no memory with an argument, nor within itself, and no argument is written into.
func TestMemory(t *testing.T) {
	spoil := func(x *api.Type) {
		for _, r := range spots(x) {
			*r = -99
		}
		for y := x; len(y.Args) > 0; y = &y.Args[0] {
			y.Args[0].Name = "spoilt"
		}
	}
	for _, m := range append(stock()[:500], odd()...) {
		x, regs := clone(m.t), []int{1, 2, 3, 4, 5, 6, 7}
		results := []api.Type{kind.Erase(x), kind.With(x, regs), kind.With(x, nil), kind.Map(x, regs), kind.Map(x, nil)}
		l := kind.Regions(x)
		for i := range l {
			l[i] = -99
		}
		for i := range results {
			spoil(&results[i])
		}
		if !alike(x, m.t) || !slices.Equal(regs, []int{1, 2, 3, 4, 5, 6, 7}) {
			t.Errorf("%v became %v, %v", m.t, x, regs)
		}
		kept := kind.With(x, regs)
		want := clone(kept)
		spoil(&x)
		regs[0] = 50
		if !alike(kept, want) {
			t.Errorf("%v hangs on what it was made of", want)
		}
	}
	shared := []int{1, 2}
	twice := api.Type{Kind: 99, Args: []api.Type{{Regs: shared}, {Regs: shared}}}
	for _, x := range []api.Type{kind.Erase(twice), kind.With(twice, nil), kind.Map(twice, nil)} {
		x.Args[0].Regs[0] = 9
		if x.Args[1].Regs[0] == 9 {
			t.Error("two lists of an answer share memory")
		}
	}
}

// Beyond what is promised there is an end: of types that hold more than can be counted, or that lie in themselves.
func TestEnd(t *testing.T) {
	for _, x := range append(sample.Endless(), sample.Doubled(100, ref(1, aInt)), within(1<<17, aInt)) {
		kind.Right(x)
		kind.Same(x, x)
		kind.Same(x, clonedOnce(x))
		kind.Erase(x)
		kind.Regions(x)
		kind.With(x, []int{1, 2})
		kind.Map(x, []int{1, 2})
		kind.Text(x)
		kind.Depth(x)
		if kind.Right(x) {
			t.Error("it is right")
		}
	}
	for _, x := range sample.Endless() {
		if kind.Depth(x) != 0 || kind.Text(x) != "" || len(kind.Regions(x)) > 0 || !alike(kind.Erase(x), api.Type{}) {
			t.Error("something is told of what has no end")
		}
	}
	for k := -1; k < 10; k++ {
		kind.Text(api.Type{Kind: k})
		kind.Text(api.Type{Kind: k, Args: []api.Type{aInt, aInt}, Regs: []int{-1}, Region: -5})
	}
}

// clonedOnce is a type whose list of Args is in new memory.
func clonedOnce(t api.Type) api.Type {
	t.Args = append([]api.Type(nil), t.Args...)
	return t
}
