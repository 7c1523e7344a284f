package expand

import (
	"borrowdale/api"
	"borrowdale/tree"
)

// Replace is a tree with types put for names.
func Replace(n api.Node, names []string, by []api.Node) api.Node {
	return placesOf(names).replaced(n, by)
}

// places is where each name stands first in a list of names.
type places map[string]int

func placesOf(names []string) places {
	p := places{}
	for i, name := range names {
		if _, ok := p[name]; !ok {
			p[name] = i
		}
	}
	return p
}

// of is the place of the name that a node is, if it is a type that is nothing but one of the names.
func (p places) of(n api.Node) (int, bool) {
	if n.Kind != api.TName || len(n.Kids) != 1 || n.Kids[0].Kind != api.Names || len(n.Kids[0].Kids) > 0 {
		return 0, false
	}
	i, ok := p[n.Text]
	return i, ok
}

// replaced is a tree with types put for the names.
func (p places) replaced(n api.Node, by []api.Node) api.Node {
	if i, ok := p.of(n); ok && i < len(by) {
		return tree.Copy(by[i])
	}
	var kids []api.Node
	for _, kid := range n.Kids {
		kids = append(kids, p.replaced(kid, by))
	}
	n.Kids = kids
	return n
}
