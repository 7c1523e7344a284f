package expand_test

import (
	"strings"
	"testing"

	"borrowdale/api"
	"borrowdale/expand"
	"borrowdale/parse"
)

// types is what a source of types says, with a blank between each two.
func types(t *testing.T, s string) []api.Node {
	t.Helper()
	var l []api.Node
	for _, one := range strings.Fields(s) {
		n, f := parse.Type(strings.ReplaceAll(one, "~", " "))
		if f != (api.Fault{}) {
			t.Fatalf("%v in %s", f, one)
		}
		l = append(l, n)
	}
	return l
}

// P6.3: a name, mangled.
func TestMangle(t *testing.T) {
	ten := strings.Repeat("x", 10)
	long := strings.Repeat("y", 1234)
	for _, c := range []struct{ name, args, want string }{
		{"P", "", "P"},
		{"", "", ""},
		{"P", "int", "P__i"},
		{"P", "bool", "P__b"},
		{"P", "unit", "P__u"},
		{"", "int", "__i"},
		{"a b", "int", "a b__i"},
		{"P", "Box[int]", "P__Bi"},
		{"P", "Vec[int]", "P__Vi"},
		{"P", "&int", "P__Ri"},
		{"P", "&mut~int", "P__Rmi"},
		{"P", "&'a~mut~int", "P__Rmi"},
		{"P", "&'a~&mut~&int", "P__RRmRi"},
		{"P", "Box[Vec[&mut~Vec[Box[unit]]]]", "P__BVRmVBu"},
		{"P", "int bool unit", "P__ibu"},
		{"P", "&mut~Box[int] Vec[&bool] unit", "P__RmBiVRbu"},
		{"P", "S", "P__1S"},
		{"P", "S<'a>", "P__1S"},
		{"P", "Sa1", "P__3Sa1"},
		{"P", "Box[S]", "P__B1S"},
		{"P", "S S", "P__1S1S"},
		{"P", "i", "P__1i"},
		{"P", "abcdefghi", "P__9abcdefghi"},
		{"P", ten, "P__10" + ten},
		{"P", long, "P__1234" + long},
		{"P", ten + "[int]", "P__13" + ten + "__i"},
		{"P", "P[bool]", "P__4P__b"},
		{"P", "Box[P[bool]]", "P__B4P__b"},
		{"P", "P[bool,&mut~int]<'a,'b>", "P__7P__bRmi"},
		{"P", "P[P[int]]", "P__8P__4P__i"},
		{"P", "P[P[P[int]]]", "P__12P__8P__4P__i"},
		{"P__i", "int", "P__i__i"},
		{"let", "Vec[P__i]", "let__V4P__i"},
	} {
		if got := expand.Mangle(c.name, types(t, c.args)); got != c.want {
			t.Errorf("Mangle(%s, %s): %s, not %s", c.name, c.args, got, c.want)
		}
	}
}

// plain is all types up to a depth that have boxes, vectors and these names in them.
func plain(deep int, names ...string) []api.Node {
	l := []api.Node{tint, tbool, tunit}
	for _, s := range names {
		l = append(l, named(s))
	}
	if deep == 1 {
		return l
	}
	for _, n := range plain(deep-1, names...) {
		l = append(l, list(api.TBox, n), list(api.TVec, n))
	}
	return l
}

// P6.3: one template's instances have as many names as there are arguments.
func TestMangledApart(t *testing.T) {
	l := plain(4, "S", "i", "B", "P__i", "P__b", "i1B", "ii", "abcdefghijk")
	for _, n := range []api.Node{tint, named("S"), list(api.TVec, named("ii"))} {
		l = append(l, of(api.TRef, "", 0, n), of(api.TRef, "", 1, n), of(api.TRef, "", 0, list(api.TBox, n)), named("P", n, n), list(api.TVec, named("Q", n)))
	}
	seen := map[string]bool{}
	for i, a := range l {
		// P[int] is the type P__i.
		if s := expand.Mangle("P", []api.Node{a}); seen[s] {
			t.Errorf("type %d: %s again", i, s)
		}
		seen[expand.Mangle("P", []api.Node{a})] = true
	}
	seen = map[string]bool{}
	for _, a := range l {
		for _, b := range l {
			s := expand.Mangle("P", []api.Node{a, b})
			if seen[s] {
				t.Fatalf("%s again", s)
			}
			seen[s] = true
		}
	}
}

// P6.3: of what is no type there is an end.
func TestMangleOfOthers(t *testing.T) {
	for _, n := range []api.Node{{}, list(api.TBox), list(api.TRef), list(api.TName), of(api.TName, "S", 0, tint), list(api.TBox, tint, tint), list(999), list(-1, tint), list(api.Block, api.Node{})} {
		if s := expand.Mangle("P", []api.Node{n, tint}); !strings.HasPrefix(s, "P__") || !strings.HasSuffix(s, "i") {
			t.Errorf("Kind %d: %s", n.Kind, s)
		}
	}
	deep := boxes(1<<16, tint)
	if s := expand.Mangle("P", []api.Node{deep}); s != "P__"+strings.Repeat("B", 1<<16)+"i" {
		t.Errorf("a type of great depth: %d bytes", len(s))
	}
}

// P6.3, rule 2: the arguments stay as they are.
func TestMangleWritesNothing(t *testing.T) {
	l := types(t, "P[int]<'a> Box[P[Q[&mut~S]]]")
	expand.Mangle("P", l)
	for i, n := range types(t, "P[int]<'a> Box[P[Q[&mut~S]]]") {
		if !alike(n, l[i]) {
			t.Errorf("argument %d is written into", i)
		}
	}
}
