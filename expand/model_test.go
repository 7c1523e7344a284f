package expand_test

import (
	"fmt"
	"strings"

	"borrowdale/api"
	"borrowdale/tree"
)

// This is the chapter, word by word, without regard to time and room: what the calls are held against.

func isData(n api.Node) bool { return n.Kind == api.Struct || n.Kind == api.Choice }

func sameSort(a, b api.Node) bool { return isData(a) == isData(b) }

func templatesAsSaid(item api.Node) []api.Node { return item.Kids[0].Kids }

func replacedAsSaid(n api.Node, names []string, by []api.Node) api.Node {
	if n.Kind == api.TName && len(n.Kids) == 1 && n.Kids[0].Kind == api.Names && len(n.Kids[0].Kids) == 0 {
		for i, s := range names {
			if s == n.Text {
				if i < len(by) {
					return tree.Copy(by[i])
				}
				break
			}
		}
	}
	m := n
	m.Kids = nil
	for _, kid := range n.Kids {
		m.Kids = append(m.Kids, replacedAsSaid(kid, names, by))
	}
	return m
}

func lettersAsSaid(n api.Node) string {
	switch n.Kind {
	case api.TInt:
		return "i"
	case api.TBool:
		return "b"
	case api.TUnit:
		return "u"
	case api.TBox:
		return "B" + lettersAsSaid(n.Kids[0])
	case api.TVec:
		return "V" + lettersAsSaid(n.Kids[0])
	case api.TRef:
		return "R" + strings.Repeat("m", int(n.N)) + lettersAsSaid(n.Kids[0])
	}
	s := mangledAsSaid(n.Text, n.Kids[1:])
	return fmt.Sprintf("%d%s", len(s), s)
}

func mangledAsSaid(name string, args []api.Node) string {
	for i, a := range args {
		if i == 0 {
			name += "__"
		}
		name += lettersAsSaid(a)
	}
	return name
}

// needed is an instance.
type needed struct {
	template api.Node
	args     []api.Node
	name     string
}

// model is what is known at some time; a fault is thrown.
type model struct {
	items []api.Node
	list  []needed
}

// named is the first item of a sort with a name.
func (m *model) named(data bool, name string) (api.Node, bool) {
	for _, item := range m.items {
		if isData(item) == data && item.Text == name {
			return item, true
		}
	}
	return api.Node{}, false
}

func (m *model) template(data bool, name string) (api.Node, bool) {
	item, ok := m.named(data, name)
	return item, ok && len(templatesAsSaid(item)) > 0
}

func (m *model) isPlain(n api.Node) bool {
	if n.Kind == api.TRef {
		return false
	}
	if n.Kind == api.TName {
		if len(n.Kids[0].Kids) > 0 {
			return false
		}
		if item, ok := m.named(true, n.Text); ok && len(item.Kids[1].Kids) > 0 {
			return false
		}
		for _, i := range m.list {
			if i.name == n.Text && isData(i.template) && len(i.template.Kids[1].Kids) > 0 {
				return false
			}
		}
	}
	for _, kid := range n.Kids {
		if !m.isPlain(kid) {
			return false
		}
	}
	return true
}

// need is the name of an instance.
func (m *model) need(at int, template api.Node, args []api.Node) string {
	for _, i := range m.list {
		same := sameSort(i.template, template) && i.template.Text == template.Text
		for k, a := range args {
			same = same && tree.Same(a, i.args[k])
		}
		if same {
			return i.name
		}
	}
	name := mangledAsSaid(template.Text, args)
	if len(m.list) == api.MaxCopies || len(name) > api.MaxSource {
		panic(api.Fault{Kind: api.ErrLoop, At: at})
	}
	m.list = append(m.list, needed{template, args, name})
	return name
}

// met is what becomes of a node.
func (m *model) met(n api.Node) api.Node {
	kids := n.Kids
	n.Kids = nil
	for _, kid := range kids {
		n.Kids = append(n.Kids, m.met(kid))
	}
	var args []api.Node
	name, rest := n.Text, ""
	switch n.Kind {
	case api.TName:
		args = n.Kids[1:]
	case api.Call, api.Build:
		args = n.Kids[0].Kids
	case api.Case:
		args = n.Kids[0].Kids
		at := strings.Index(n.Text, "::")
		name, rest = n.Text[:at], n.Text[at:]
	default:
		return n
	}
	template, ok := m.template(n.Kind != api.Call, name)
	if !ok {
		if len(args) > 0 && n.Kind != api.Call {
			panic(api.Fault{Kind: api.ErrTemplate, At: n.At})
		}
		return n
	}
	if len(args) != len(templatesAsSaid(template)) {
		panic(api.Fault{Kind: api.ErrCount, At: n.At})
	}
	for _, a := range args {
		if !m.isPlain(a) {
			panic(api.Fault{Kind: api.ErrPlain, At: a.At})
		}
	}
	n.Text = m.need(n.At, template, args) + rest
	if n.Kind == api.TName {
		n.Kids = n.Kids[:1]
	} else {
		n.Kids[0].Kids = nil
	}
	return n
}

func (m *model) checkNames() {
	for i, item := range m.items {
		for _, other := range m.items[:i] {
			if sameSort(item, other) && item.Text == other.Text && len(templatesAsSaid(item))+len(templatesAsSaid(other)) > 0 {
				panic(api.Fault{Kind: api.ErrTwice, At: item.At})
			}
		}
		for k, a := range templatesAsSaid(item) {
			for _, b := range templatesAsSaid(item)[:k] {
				if a.Text == b.Text {
					panic(api.Fault{Kind: api.ErrTwice, At: item.At})
				}
			}
		}
	}
}

// instance is a template for arguments.
func (i needed) instance() api.Node {
	var names []string
	for _, n := range templatesAsSaid(i.template) {
		names = append(names, n.Text)
	}
	n := replacedAsSaid(i.template, names, i.args)
	n.Kids[0].Kids = nil
	n.Text = i.name
	return n
}

// expandedAsSaid is what becomes of a right program, and the instances that it needs.
func expandedAsSaid(n api.Node) (got api.Node, needs []string, f api.Fault) {
	defer func() {
		if thrown := recover(); thrown != nil {
			got, needs, f = api.Node{}, nil, thrown.(api.Fault)
		}
	}()
	m := &model{items: n.Kids}
	m.checkNames()
	got = api.Node{Kind: api.Program, At: n.At}
	for _, item := range n.Kids {
		if len(templatesAsSaid(item)) == 0 {
			got.Kids = append(got.Kids, m.met(item))
		}
	}
	for i := 0; i < len(m.list); i++ {
		got.Kids = append(got.Kids, m.met(m.list[i].instance()))
		needs = append(needs, m.list[i].name)
	}
	if f := tree.Right(got); f != (api.Fault{}) {
		panic(f)
	}
	return got, needs, api.Fault{}
}
