package parse

import (
	"borrowdale/api"
	"borrowdale/lex"
)

func (r *reader) aType() api.Node {
	refs := r.refs()
	return around(refs, r.noRef())
}

// refs is all references ahead of a type.
func (r *reader) refs() []api.Node {
	var l []api.Node
	for r.is("&") || r.is("&&") {
		l = append(l, r.ands(api.TRef)...)
		last := &l[len(l)-1]
		if r.next().Kind == lex.Region {
			last.Text = r.take().Text
		}
		last.N = r.mut()
	}
	return l
}

// noRef is a type that begins with no reference.
func (r *reader) noRef() api.Node {
	switch r.next().Text {
	case "int":
		return api.Node{Kind: api.TInt, At: r.take().At}
	case "bool":
		return api.Node{Kind: api.TBool, At: r.take().At}
	case "unit":
		return api.Node{Kind: api.TUnit, At: r.take().At}
	case "Box":
		return r.holding(api.TBox)
	case "Vec":
		return r.holding(api.TVec)
	}
	return r.typeName()
}

// holding is a box or a vector of a type.
func (r *reader) holding(kind int) api.Node {
	n := api.Node{Kind: kind, At: r.take().At}
	r.want("[")
	n.Kids = []api.Node{r.aType()}
	r.want("]")
	return n
}

// typeName has its regions ahead of its arguments, though they stand behind them.
func (r *reader) typeName() api.Node {
	n := plain(api.TName, r.wantName())
	args := r.typeArgs().Kids
	n.Kids = append([]api.Node{r.regions()}, args...)
	return n
}

// typeArgs is a list of types, or nothing.
func (r *reader) typeArgs() api.Node {
	return r.bracketed(api.TArgs, r.aType)
}
