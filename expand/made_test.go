package expand_test

import (
	"math/rand"
	"slices"
	"testing"

	"borrowdale/api"
	"borrowdale/expand"
	"borrowdale/tree"
)

// head is what stands at an item's beginning.
type head struct {
	kind      int
	name      string
	templates []string
	regions   bool
}

// maker makes programs by chance: the same ones of the same seed.
type maker struct {
	*rand.Rand
	heads []head
	scope []string // the templates' names that stand for types
	wild  int      // one of so many things is wrong
	at    int
}

func (m *maker) odds(n int) bool { return m.Intn(n) == 0 }

func (m *maker) of(l ...string) string { return l[m.Intn(len(l))] }

// placed is a node that stands somewhere.
func (m *maker) placed(n api.Node) api.Node {
	m.at++
	n.At = m.at
	return n
}

func newMaker(seed int64) *maker {
	m := &maker{Rand: rand.New(rand.NewSource(seed))}
	m.wild = []int{6, 40, 1000}[m.Intn(3)]
	free := []string{"A", "B", "C", "D", "A__i", "B__b", "A__1T", "T", "U"}
	m.Shuffle(len(free), func(i, k int) { free[i], free[k] = free[k], free[i] })
	for range 2 + m.Intn(4) {
		h := head{kind: api.Struct + m.Intn(3), regions: m.odds(8)}
		h.name, free = free[0], free[1:]
		if m.odds(2 * m.wild) {
			free = append([]string{h.name}, free...)
		}
		for _, s := range []string{"T", "U"} {
			if m.odds(2) {
				h.templates = append(h.templates, s)
			}
		}
		if m.odds(6 * m.wild) {
			h.templates = append(h.templates, "T", "T")
		}
		m.heads = append(m.heads, h)
	}
	return m
}

// named is the name of an item of a sort, and which arguments it has.
func (m *maker) named(data bool, deep int) (string, []api.Node) {
	h := m.heads[m.Intn(len(m.heads))]
	for range 10 {
		if (h.kind != api.Fn) == data {
			break
		}
		h = m.heads[m.Intn(len(m.heads))]
	}
	count := len(h.templates)
	if m.odds(m.wild) || (h.kind != api.Fn) != data {
		count = 0
	}
	if m.odds(m.wild) {
		count = m.Intn(3)
	}
	if m.odds(8) && count == 0 {
		return m.of("X", "A__i", "A__b", "B__b", "C__2Bi"), nil
	}
	var args []api.Node
	for range count {
		args = append(args, m.aType(deep-1, false))
	}
	return h.name, args
}

// aType is a type; one that refs isn't said of holds references only where something is wrong.
func (m *maker) aType(deep int, refs bool) api.Node {
	if deep < 1 || m.odds(3) {
		if len(m.scope) > 0 && !m.odds(3) {
			return m.placed(at(named(m.of(m.scope...)), 0))
		}
		return m.placed(list(api.TInt + m.Intn(3)))
	}
	switch {
	case (refs || m.odds(m.wild)) && m.odds(4):
		return m.placed(of(api.TRef, m.of("", "'a"), m.Int63n(2), m.aType(deep-1, refs)))
	case m.odds(3):
		return m.placed(list(api.TBox+m.Intn(2), m.aType(deep-1, refs)))
	}
	s, args := m.named(true, deep)
	regions := names()
	if (refs || m.odds(m.wild)) && m.odds(5) {
		regions = names("'a")
	}
	return m.placed(of(api.TName, s, 0, append([]api.Node{m.placed(regions)}, args...)...))
}

func (m *maker) types(deep int) []api.Node {
	var l []api.Node
	for range m.Intn(3) {
		l = append(l, m.aType(deep, true))
	}
	return l
}

// expr is an expression.
func (m *maker) expr(deep int) api.Node {
	if deep < 1 {
		return m.placed(of(api.Name, m.of("T", "x"), m.Int63n(3)))
	}
	switch m.Intn(7) {
	case 0:
		return m.placed(of(api.Binary, "+", 0, m.expr(deep-1), m.expr(deep-1)))
	case 1:
		return m.placed(list(api.Match, m.expr(deep-1), m.placed(list(api.Arm, m.placed(of(api.PCase, "A::T", 0)), m.expr(deep-1)))))
	case 2:
		let := m.placed(of(api.Let, "T", m.Int63n(4), m.aType(deep, true), m.expr(deep-1)))
		return m.placed(list(api.Block, let, m.expr(deep-1)))
	}
	return m.user(deep)
}

// user is a Call, a Build or a Case.
func (m *maker) user(deep int) api.Node {
	kind := []int{api.Call, api.Build, api.Case}[m.Intn(3)]
	s, args := m.named(kind != api.Call, deep)
	if kind == api.Call && m.odds(4) {
		s, args = m.of("vec", "A", "len"), m.types(deep)
	}
	if kind == api.Case {
		s += "::" + m.of("T", "A", "One")
	}
	n := m.placed(of(kind, s, 0, m.placed(list(api.TArgs, args...))))
	for range m.Intn(3) {
		kid := m.expr(deep - 1)
		if kind == api.Build {
			kid = m.placed(of(api.Init, "T", 0, kid))
		}
		n.Kids = append(n.Kids, kid)
	}
	return n
}

func (m *maker) item(h head) api.Node {
	m.scope = h.templates
	regions := names()
	if h.regions {
		regions = names("'a")
	}
	n := m.placed(of(h.kind, h.name, 0, m.placed(names(h.templates...)), m.placed(regions)))
	switch h.kind {
	case api.Struct:
		for _, t := range m.types(3) {
			n.Kids = append(n.Kids, m.placed(of(api.FieldDecl, "T", 0, t)))
		}
	case api.Choice:
		for range m.Intn(3) {
			n.Kids = append(n.Kids, m.placed(of(api.CaseDecl, "T", 0, m.types(2)...)))
		}
	case api.Fn:
		args := m.placed(list(api.Args))
		for _, t := range m.types(2) {
			args.Kids = append(args.Kids, m.placed(of(api.Arg, "T", m.Int63n(2), t)))
		}
		result := api.Node{}
		if m.odds(2) {
			result = m.aType(2, true)
		}
		n.Kids = append(n.Kids, args, result, m.placed(list(api.Wheres)), m.placed(list(api.Block, m.expr(3))))
	}
	return n
}

func (m *maker) program() api.Node {
	n := m.placed(list(api.Program))
	for _, h := range m.heads {
		n.Kids = append(n.Kids, m.item(h))
	}
	return n
}

// P6.1, P6.2, P6.5: programs made by chance, against the chapter's words.
func TestMadePrograms(t *testing.T) {
	t.Parallel()
	seen, instances := map[api.Errno]int{}, map[int]int{}
	for seed := range int64(20000) {
		n := newMaker(seed).program()
		if f := tree.Right(n); f != (api.Fault{}) {
			t.Fatalf("seed %d: %v", seed, f)
		}
		before := tree.Copy(n)
		got, f := expand.Expand(n)
		needs := expand.Needs(n)
		want, wantNeeds, wantFault := expandedAsSaid(n)
		if f != wantFault || !alike(got, want) || !slices.Equal(needs, wantNeeds) {
			t.Fatalf("seed %d: %v, not %v; %v, not %v\n%s\nnot\n%s\nof\n%s", seed, f, wantFault, needs, wantNeeds, told(got), told(want), told(n))
		}
		if !alike(n, before) {
			t.Fatalf("seed %d: it is written into", seed)
		}
		seen[f.Kind]++
		instances[min(len(needs), 4)]++
		if f == (api.Fault{}) {
			checkExpanded(t, seed, n, got)
		}
	}
	for _, e := range []api.Errno{api.OK, api.ErrTwice, api.ErrTemplate, api.ErrCount, api.ErrPlain, api.ErrLoop} {
		if seen[e] < 150 {
			t.Errorf("error %d: only %d", e, seen[e])
		}
	}
	for i := range 5 {
		if instances[i] < 150 {
			t.Errorf("%d instances: only %d", i, instances[i])
		}
	}
}

// checkExpanded tells whether what is expanded is what follows of it.
func checkExpanded(t *testing.T, seed int64, n, got api.Node) {
	if again, f := expand.Expand(got); f != (api.Fault{}) || !alike(again, got) || len(expand.Needs(got)) > 0 {
		t.Fatalf("seed %d: %v, expanded again it is another one", seed, f)
	}
	needs := expand.Needs(n)
	for i, item := range got.Kids[len(got.Kids)-len(needs):] {
		if item.Text != needs[i] {
			t.Fatalf("seed %d: %s, not %s", seed, item.Text, needs[i])
		}
	}
	memory := map[*api.Node]bool{}
	if !own(n, memory) || !own(got, memory) {
		t.Fatalf("seed %d: memory is shared", seed)
	}
	templates := map[string]bool{}
	for _, item := range n.Kids {
		templates[item.Text] = templates[item.Text] || item.Kind == api.Fn && len(item.Kids[0].Kids) > 0
	}
	// An instance may have the name of a template.
	for _, s := range needs {
		delete(templates, s)
	}
	for k := range tree.All(got) {
		args := 0
		switch k.Kind {
		case api.Struct, api.Choice, api.Fn, api.Build, api.Case:
			args = len(k.Kids[0].Kids)
		case api.TName:
			args = len(k.Kids) - 1
		case api.Call:
			if templates[k.Text] {
				t.Fatalf("seed %d: %s is called still", seed, k.Text)
			}
		}
		if args > 0 {
			t.Fatalf("seed %d: Kind %d, %s has arguments still", seed, k.Kind, k.Text)
		}
	}
}
