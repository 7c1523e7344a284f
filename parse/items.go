package parse

import (
	"borrowdale/api"
	"borrowdale/lex"
)

// program is items up to the source's end.
func (r *reader) program() api.Node {
	n := api.Node{Kind: api.Program, At: r.next().At}
	for r.left() {
		n.Kids = append(n.Kids, r.item())
	}
	return n
}

func (r *reader) item() api.Node {
	if r.is("fn") {
		return r.function()
	}
	return r.data()
}

// data is a struct or a choice.
func (r *reader) data() api.Node {
	n := api.Node{At: r.next().At}
	if r.accept("copy") {
		n.N = 1
	}
	part := r.field
	switch {
	case r.accept("struct"):
		n.Kind = api.Struct
	case r.accept("choice"):
		n.Kind = api.Choice
		part = r.caseOf
	default:
		panic(r.wrong(api.ErrWant))
	}
	n.Text = r.wantName().Text
	n.Kids = []api.Node{r.templates(), r.regions()}
	r.want("{")
	n.Kids = append(n.Kids, r.list("}", part)...)
	return n
}

// templates is a list of templates' names, or nothing.
func (r *reader) templates() api.Node {
	return r.bracketed(api.Names, r.name)
}

// regions is a list of regions, or nothing.
func (r *reader) regions() api.Node {
	n := api.Node{Kind: api.Names}
	if r.is("<") {
		n.At = r.take().At
		n.Kids = r.chain(r.region)
		r.want(">")
	}
	return n
}

func (r *reader) field() api.Node {
	return r.typed(api.FieldDecl)
}

// typed is a name, and its type.
func (r *reader) typed(kind int) api.Node {
	n := plain(kind, r.wantName())
	r.want(":")
	n.Kids = []api.Node{r.aType()}
	return n
}

func (r *reader) caseOf() api.Node {
	n := plain(api.CaseDecl, r.wantName())
	if r.accept("(") {
		n.Kids = r.list(")", r.aType)
	}
	return n
}

func (r *reader) function() api.Node {
	at := r.want("fn").At
	n := api.Node{Kind: api.Fn, Text: r.wantName().Text, At: at}
	n.Kids = []api.Node{r.templates(), r.regions(), r.args(), r.result(), r.wheres(), r.block()}
	return n
}

func (r *reader) args() api.Node {
	n := api.Node{Kind: api.Args, At: r.want("(").At}
	n.Kids = r.list(")", r.arg)
	return n
}

func (r *reader) arg() api.Node {
	at := r.next().At
	mut := r.mut()
	n := r.typed(api.Arg)
	n.N, n.At = mut, at
	return n
}

// result is a function's type, or None.
func (r *reader) result() api.Node {
	if r.accept("->") {
		return r.aType()
	}
	return api.Node{}
}

func (r *reader) wheres() api.Node {
	n := api.Node{Kind: api.Wheres}
	if r.is("where") {
		n.At = r.take().At
		n.Kids = r.chain(r.where)
	}
	return n
}

func (r *reader) where() api.Node {
	n := plain(api.Where, r.wantKind(lex.Region))
	r.want(":")
	n.Kids = []api.Node{r.region()}
	return n
}
