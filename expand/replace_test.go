package expand_test

import (
	"fmt"
	"math/rand"
	"testing"

	"borrowdale/api"
	"borrowdale/expand"
	"borrowdale/tree"
)

// P6.4: types put for names.
func TestReplace(t *testing.T) {
	anywhere := list(api.Block, of(api.Call, "T", 0, list(api.TArgs, named("T"), named("U"))), of(api.Name, "T", 3), of(api.PCase, "T::T", 0), of(api.Let, "T", 5, named("T"), api.Node{}), api.Node{})
	for _, c := range []struct {
		about string
		n     api.Node
		names []string
		by    []api.Node
		want  api.Node
	}{
		{"the node itself", at(named("T"), 7), []string{"T"}, []api.Node{at(tint, 9)}, at(tint, 9)},
		{"another name", at(named("T"), 7), []string{"U"}, []api.Node{tint}, at(named("T"), 7)},
		{"no name", named("T"), nil, []api.Node{tint}, named("T")},
		{"no text", named(""), []string{"T"}, []api.Node{tint}, named("")},
		{"no text, and a name without one", named(""), []string{""}, []api.Node{tint}, tint},
		{"the second name", named("U"), []string{"T", "U"}, []api.Node{tint, tbool}, tbool},
		{"the first of several", named("T"), []string{"U", "T", "T"}, []api.Node{tint, tbool, tunit}, tbool},
		{"without a place", named("U"), []string{"T", "U"}, []api.Node{tint}, named("U")},
		{"without any", named("T"), []string{"T"}, nil, named("T")},
		{"the first of several, without a place", named("T"), []string{"U", "T", "T"}, []api.Node{tint}, named("T")},
		{"more than names", named("T"), []string{"T"}, []api.Node{tint, tbool}, tint},
		{"with types", named("T", named("T")), []string{"T"}, []api.Node{tint}, named("T", tint)},
		{"with regions", of(api.TName, "T", 0, names("'a")), []string{"T"}, []api.Node{tint}, of(api.TName, "T", 0, names("'a"))},
		{"with both", of(api.TName, "T", 0, names("'a"), named("T")), []string{"T"}, []api.Node{tint}, of(api.TName, "T", 0, names("'a"), tint)},
		{"without Kids", of(api.TName, "T", 0), []string{"T"}, []api.Node{tint}, of(api.TName, "T", 0)},
		{"with another Kid", of(api.TName, "T", 0, tint), []string{"T"}, []api.Node{tint}, of(api.TName, "T", 0, tint)},
		{"with two Names", of(api.TName, "T", 0, names(), names()), []string{"T"}, []api.Node{tint}, of(api.TName, "T", 0, names(), names())},
		{"whatever its N is, and its Names'", of(api.TName, "T", 5, of(api.Names, "x", 3)), []string{"T"}, []api.Node{tint}, tint},
		{"another Kind", of(api.Name, "T", 0, names()), []string{"T"}, []api.Node{tint}, of(api.Name, "T", 0, names())},
		{"as it is", list(api.TBox, named("T")), []string{"T", "U"}, []api.Node{list(api.TVec, named("T"), named("U")), tint}, list(api.TBox, list(api.TVec, named("T"), named("U")))},
		{"put for each other", list(api.TArgs, named("T"), named("U")), []string{"T", "U"}, []api.Node{named("U"), named("T")}, list(api.TArgs, named("U"), named("T"))},
		{"by what is no type", list(api.TBox, named("T")), []string{"T"}, []api.Node{{Kind: 999, At: -4}}, list(api.TBox, api.Node{Kind: 999, At: -4})},
		{"a zero node", api.Node{}, []string{"", "T"}, []api.Node{tint}, api.Node{}},
		{"anywhere", anywhere, []string{"T"}, []api.Node{tint}, list(api.Block, of(api.Call, "T", 0, list(api.TArgs, tint, named("U"))), of(api.Name, "T", 3), of(api.PCase, "T::T", 0), of(api.Let, "T", 5, tint, api.Node{}), api.Node{})},
	} {
		if got := expand.Replace(c.n, c.names, c.by); !alike(got, c.want) {
			t.Errorf("%s: %s, not %s", c.about, told(got), told(c.want))
		}
	}
}

// anyNode is a node of any Kind, made by chance.
func anyNode(r *rand.Rand, deep int) api.Node {
	texts := []string{"T", "T", "U", "V", "", "W"}
	n := api.Node{Kind: r.Intn(80) - 2, Text: texts[r.Intn(len(texts))], N: r.Int63n(3), At: r.Intn(1000)}
	if r.Intn(3) > 0 {
		n.Kind = api.TName
		n.Kids = []api.Node{at(names(), r.Intn(1000))}
		switch r.Intn(8) {
		case 0:
			n.Kids[0].Kind = api.Name
		case 1:
			n.Kids[0] = names("'a")
		}
	}
	if r.Intn(3) > 0 {
		for range r.Intn(4) {
			if deep > 1 {
				n.Kids = append(n.Kids, anyNode(r, deep-1))
			}
		}
	}
	return n
}

// P6.4: any nodes, names and types, against the chapter's words; nothing is written into, and nothing shares memory.
func TestReplaceByChance(t *testing.T) {
	put := 0
	for seed := range int64(4000) {
		r := rand.New(rand.NewSource(seed))
		n := anyNode(r, 6)
		var names []string
		for range r.Intn(4) {
			names = append(names, []string{"T", "U", "", "V"}[r.Intn(4)])
		}
		var by []api.Node
		for range r.Intn(4) {
			by = append(by, anyNode(r, 2))
		}
		before, byBefore := told(n), fmt.Sprint(by)
		got := expand.Replace(n, names, by)
		want := replacedAsSaid(n, names, by)
		if !alike(got, want) {
			t.Fatalf("seed %d: %s, not %s", seed, told(got), told(want))
		}
		if told(n) != before || fmt.Sprint(by) != byBefore {
			t.Fatalf("seed %d: an argument is written into", seed)
		}
		seen := map[*api.Node]bool{}
		own(n, seen)
		own(list(api.Block, by...), seen)
		if !own(got, seen) {
			t.Fatalf("seed %d: memory is shared", seed)
		}
		if !tree.Same(got, n) {
			put++
		}
	}
	if put < 500 {
		t.Errorf("only %d are changed", put)
	}
}
