package show

import "borrowdale/api"

// How close an expression binds.
const (
	loosest  = 0
	either   = 1
	both     = 2
	compared = 3
	summed   = 4
	times    = 5
	prefixed = 6
	posted   = 7
	closest  = 8
)

// spot is what is asked of an expression where it stands.
type spot struct {
	least int  // how close it binds at least
	bare  bool // it stands bare
	first bool // a statement, or what a block ends with, begins there: it would end behind what is closed
}

// next is what is asked of a part of what stands there.
func (s spot) next(least int) spot {
	return spot{least: least, bare: s.bare}
}

// begin is what is asked of a part that what stands there begins with.
func (s spot) begin(least int) spot {
	return spot{least: least, bare: s.bare, first: s.first}
}

// whole is what is asked of the expression of a statement, or of what a block ends with: that one may be closed, but nothing that it begins with.
func whole(n api.Node) spot {
	return spot{first: !isClosed(n.Kind)}
}

// inParens is whether an expression stands in ( ) there.
func (s spot) inParens(n api.Node) bool {
	return closeness(n) < s.least || s.bare && isCutShort(n) || s.first && isClosed(n.Kind)
}

// isCutShort is whether an expression might end too early where it stands bare: what is behind it begins with the first "{" there.
func isCutShort(n api.Node) bool {
	switch n.Kind {
	case api.Build:
		return true
	case api.Break, api.Return:
		return n.Kids[0].Kind != api.None
	}
	return false
}

// isClosed is whether an expression of a Kind needs no ";" behind it.
func isClosed(kind int) bool {
	switch kind {
	case api.If, api.While, api.Loop, api.Match, api.Block:
		return true
	}
	return false
}

// closeness is how close an expression binds.
func closeness(n api.Node) int {
	switch n.Kind {
	case api.Assign, api.Break, api.Continue, api.Return:
		return loosest
	case api.Binary:
		return rank(n.Text)
	case api.Unary, api.Deref, api.Borrow:
		return prefixed
	case api.Field:
		return posted
	}
	return closest
}

// rank is how close an operator binds.
func rank(operator string) int {
	switch operator {
	case "||":
		return either
	case "&&":
		return both
	case "+", "-":
		return summed
	case "*", "/", "%":
		return times
	}
	return compared
}

// sides is how close what stands on both sides of a Binary or an Assign binds at least.
func sides(n api.Node) (first, second int) {
	if n.Kind == api.Assign {
		return either, loosest
	}
	k := rank(n.Text)
	// Of a comparison nothing is compared.
	if k == compared {
		return k + 1, k + 1
	}
	return k, k + 1
}
