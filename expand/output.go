package expand

import (
	"borrowdale/api"
	"borrowdale/tree"
)

// output is the items that are made, as long as they may come to a right program: there can be far more nodes in all of them than can be kept.
type output struct {
	items []api.Node
	size  int       // how many nodes they have
	deep  api.Fault // the first node that lies too deep
}

// add takes one more item.
func (o *output) add(item api.Node) {
	if o.deep.Kind != api.OK {
		return
	}
	alone := api.Node{Kind: api.Program, Kids: []api.Node{item}}
	if f := tree.Right(alone); f.Kind == api.ErrDeep {
		*o = output{deep: f}
		return
	}
	// What lies too deep in a later item is told ahead of there being too many nodes.
	if o.size <= api.MaxNodes {
		o.items = append(o.items, item)
		o.size += tree.Size(item)
	}
}

// program is the program of all items, which stands where n does, or the first error.
func (o *output) program(n api.Node) (api.Node, api.Fault) {
	if o.deep.Kind != api.OK {
		return api.Node{}, o.deep
	}
	n.Kids = o.items
	if f := tree.Right(n); f.Kind != api.OK {
		return api.Node{}, f
	}
	// Arguments stand in many places, with one memory.
	return tree.Copy(n), api.Fault{}
}
