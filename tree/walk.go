package tree

import (
	"iter"

	"borrowdale/api"
)

// role is what a node's place asks of it, beside what its Kind asks.
type role int

const (
	plain     role = iota // nothing
	ofNames               // of a Name, and of the Names in Names: that it is told with a name
	ofRegions             // that it is told with a region
)

// spot is where a node lies: how deep (the whole: 1), and in which role.
type spot struct {
	deep int
	role role
}

// spots is all nodes in order, each with its spot; the nodes share n's memory.
func spots(n api.Node) iter.Seq2[api.Node, spot] {
	return func(yield func(api.Node, spot) bool) {
		walk(n, spot{deep: 1}, yield)
	}
}

// walk hands on a node, and then those of its Kids, till somebody wants no more.
func walk(n api.Node, s spot, yield func(api.Node, spot) bool) bool {
	if !yield(n, s) {
		return false
	}
	for i, kid := range n.Kids {
		if !walk(kid, spot{deep: s.deep + 1, role: roleOf(n.Kind, s.role, i)}, yield) {
			return false
		}
	}
	return true
}

// roleOf is the role of Kid i of a node.
func roleOf(kind int, of role, i int) role {
	switch kind {
	case api.Names:
		return of
	case api.Where:
		return ofRegions
	case api.Struct, api.Choice, api.Fn:
		if i == 0 {
			return ofNames
		}
		if i == 1 {
			return ofRegions
		}
	case api.TName:
		if i == 0 {
			return ofRegions
		}
	}
	return plain
}

// wrong is the first error of a tree, whose whole is of the Kind that is asked, or isn't.
func wrong(n api.Node, asked bool) api.Fault {
	for x, s := range spots(n) {
		if s.deep > api.MaxDepth {
			return api.Fault{Kind: api.ErrDeep, At: x.At}
		}
	}
	count := 0
	for x := range spots(n) {
		if count == api.MaxNodes {
			return api.Fault{Kind: api.ErrMany, At: x.At}
		}
		count++
	}
	if !asked {
		return api.Fault{Kind: api.ErrShape, At: n.At}
	}
	for x, s := range spots(n) {
		if !may(x, s.role) {
			return api.Fault{Kind: api.ErrShape, At: x.At}
		}
	}
	return api.Fault{}
}

// may is whether a node has what its Kind and its role ask of its Text, its N and the Kinds of its Kids.
func may(n api.Node, r role) bool {
	if !kidsOf(n.Kind).fit(n.Kids) {
		return false
	}
	if n.Kind == api.Name && r != plain {
		return n.N == 0 && (r == ofNames && isName(n.Text) || r == ofRegions && isRegion(n.Text))
	}
	return mayText(n.Kind, n.Text) && mayNumber(n.Kind, n.N)
}
