package expand

import (
	"strings"

	"borrowdale/api"
)

// expander makes a program's items, and all instances that are needed.
type expander struct {
	stock  stock
	types  *register
	needed instances
	made   output
}

// bound is the types that stand for a template's names in what is made.
type bound struct {
	places places
	args   []told
}

// newExpander is one with nothing made yet.
func newExpander(s stock, items []api.Node) *expander {
	x := &expander{stock: s, types: newRegister(), needed: instances{which: map[string]int{}}}
	seen := map[string]bool{}
	for _, item := range items {
		if sortOf(item) != data || seen[item.Text] {
			continue
		}
		seen[item.Text] = true
		e := x.types.ofCore(x.types.core(api.TName, item.Text))
		e.regions, e.template = hasRegions(item), isTemplate(item)
	}
	return x
}

// all makes the items that are no templates, and then the instances, or tells the first error.
func (x *expander) all(items []api.Node) api.Fault {
	for _, item := range items {
		if isTemplate(item) {
			continue
		}
		if f := x.item(item, bound{}); f.Kind != api.OK {
			return f
		}
	}
	// Making one may need more of them.
	for at := 0; at < len(x.needed.list); at++ {
		i := x.needed.list[at]
		if f := x.item(i.item(), bound{placesOf(templatesOf(i.template)), i.args}); f.Kind != api.OK {
			return f
		}
	}
	return api.Fault{}
}

// item makes an item.
func (x *expander) item(n api.Node, b bound) api.Fault {
	n, f := x.node(n, b)
	if f.Kind == api.OK {
		x.made.add(n)
	}
	return f
}

// names is the names of the instances that are needed.
func (x *expander) names() []string {
	var l []string
	for _, i := range x.needed.list {
		l = append(l, i.name)
	}
	return l
}

// node makes a node, its Kids first.
func (x *expander) node(n api.Node, b bound) (api.Node, api.Fault) {
	switch n.Kind {
	case api.TInt, api.TBool, api.TUnit, api.TName, api.TRef, api.TBox, api.TVec:
		t, f := x.aType(n, b)
		return t.node, f
	case api.Call, api.Build, api.Case:
		return x.user(n, b)
	}
	kids, f := x.nodes(n.Kids, b)
	if f.Kind != api.OK {
		return api.Node{}, f
	}
	n.Kids = kids
	return n, api.Fault{}
}

// nodes makes nodes, from the left.
func (x *expander) nodes(l []api.Node, b bound) ([]api.Node, api.Fault) {
	var made []api.Node
	for _, n := range l {
		m, f := x.node(n, b)
		if f.Kind != api.OK {
			return nil, f
		}
		made = append(made, m)
	}
	return made, api.Fault{}
}

// user makes a Call, a Build or a Case.
func (x *expander) user(n api.Node, b bound) (api.Node, api.Fault) {
	list := n.Kids[0]
	args, f := x.aTypes(list.Kids, b)
	if f.Kind != api.OK {
		return api.Node{}, f
	}
	rest, f := x.nodes(n.Kids[1:], b)
	if f.Kind != api.OK {
		return api.Node{}, f
	}
	name, way, isCase := strings.Cut(n.Text, "::")
	i, ok, f := x.use(n, name, args)
	if f.Kind != api.OK {
		return api.Node{}, f
	}
	list.Kids = nodes(args)
	if ok {
		list.Kids, n.Text = nil, i.name
		if isCase {
			n.Text += "::" + way
		}
	}
	n.Kids = append([]api.Node{list}, rest...)
	return n, api.Fault{}
}

// use is the instance that a node needs, which names an item and has arguments; false: it names no template.
func (x *expander) use(n api.Node, name string, args []told) (instance, bool, api.Fault) {
	sort := data
	if n.Kind == api.Call {
		sort = functions
	}
	template, ok := x.stock.find(sort, name)
	if !ok {
		if len(args) > 0 && sort == data {
			return instance{}, false, api.Fault{Kind: api.ErrTemplate, At: n.At}
		}
		return instance{}, false, api.Fault{}
	}
	if len(args) != arity(x.stock.list[template]) {
		return instance{}, false, api.Fault{Kind: api.ErrCount, At: n.At}
	}
	for _, arg := range args {
		if !x.types.isPlain(arg.number) {
			return instance{}, false, api.Fault{Kind: api.ErrPlain, At: arg.node.At}
		}
	}
	i, ok := x.need(template, args)
	if !ok {
		return instance{}, false, api.Fault{Kind: api.ErrLoop, At: n.At}
	}
	return i, true, api.Fault{}
}

// aTypes makes types, from the left.
func (x *expander) aTypes(l []api.Node, b bound) ([]told, api.Fault) {
	var made []told
	for _, n := range l {
		t, f := x.aType(n, b)
		if f.Kind != api.OK {
			return nil, f
		}
		made = append(made, t)
	}
	return made, api.Fault{}
}

// aType makes a type, what it holds first.
func (x *expander) aType(n api.Node, b bound) (told, api.Fault) {
	if i, ok := b.places.of(n); ok {
		return x.again(b.args[i])
	}
	switch n.Kind {
	case api.TName:
		return x.named(n, b)
	case api.TRef, api.TBox, api.TVec:
		inner, f := x.aType(n.Kids[0], b)
		if f.Kind != api.OK {
			return told{}, f
		}
		n.Kids = []api.Node{inner.node}
		return told{n, x.types.holder(n.Kind, inner.number)}, api.Fault{}
	}
	return told{n, x.types.core(n.Kind, "")}, api.Fault{}
}

// again makes an argument where it was put for a template's name: there is nothing left to be made in it, but an instance may have been given the name of a template.
func (x *expander) again(arg told) (told, api.Fault) {
	if x.types.ofCore(arg.number).template {
		return told{}, api.Fault{Kind: api.ErrCount, At: coreOf(arg.node).At}
	}
	return arg, api.Fault{}
}

// named makes a TName that is put for nothing.
func (x *expander) named(n api.Node, b bound) (told, api.Fault) {
	args, f := x.aTypes(argsOf(n), b)
	if f.Kind != api.OK {
		return told{}, f
	}
	i, ok, f := x.use(n, n.Text, args)
	if f.Kind != api.OK {
		return told{}, f
	}
	regions := n.Kids[0]
	n.Kids = []api.Node{regions}
	number := i.number
	if ok {
		n.Text = i.name
	} else {
		number = x.types.core(api.TName, n.Text)
	}
	if len(regions.Kids) > 0 {
		number = never
	}
	return told{n, number}, api.Fault{}
}
