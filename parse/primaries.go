package parse

import (
	"borrowdale/api"
	"borrowdale/lex"
)

func (r *reader) primary(bare bool) api.Node {
	t := r.next()
	switch t.Kind {
	case lex.Number:
		return number(api.Int, r.take())
	case lex.Region:
		return r.cycle()
	}
	switch t.Text {
	case "true", "false":
		return truth(api.Bool, r.take())
	case "(":
		return r.parens()
	case "{":
		return r.block()
	case "if":
		return r.choose()
	case "while", "loop":
		return r.cycle()
	case "match":
		return r.match()
	case "break":
		return r.breaks(bare)
	case "continue":
		return r.continues()
	case "return":
		return r.returns(bare)
	}
	return r.named(bare)
}

// parens is what stands in ( ): they make no node, and aren't counted as where one stands.
func (r *reader) parens() api.Node {
	t := r.take()
	if r.accept(")") {
		return api.Node{Kind: api.Nothing, At: t.At}
	}
	n := r.free()
	r.want(")")
	return n
}

// named is what begins with a name.
func (r *reader) named(bare bool) api.Node {
	n := r.name()
	if r.accept("::") {
		return r.caseValue(n)
	}
	args := r.typeArgs()
	switch {
	case r.accept("("):
		n.Kind = api.Call
		n.Kids = r.with(args, ")", r.free)
	case !bare && r.accept("{"):
		n.Kind = api.Build
		n.Kids = r.with(args, "}", r.fieldValue)
	case len(args.Kids) > 0:
		panic(r.wrong(api.ErrWant))
	}
	return n
}

// caseValue is a case, of whose choice the name is taken.
func (r *reader) caseValue(n api.Node) api.Node {
	n.Kind = api.Case
	n.Text += "::" + r.wantName().Text
	n.Kids = []api.Node{r.typeArgs()}
	if r.accept("(") {
		n.Kids = r.with(n.Kids[0], ")", r.free)
	}
	return n
}

// with is a node, and a list behind it.
func (r *reader) with(n api.Node, closing string, part func() api.Node) []api.Node {
	return append([]api.Node{n}, r.list(closing, part)...)
}

func (r *reader) fieldValue() api.Node {
	n := plain(api.Init, r.wantName())
	r.want(":")
	n.Kids = []api.Node{r.free()}
	return n
}

func (r *reader) choose() api.Node {
	n := api.Node{Kind: api.If, At: r.want("if").At}
	n.Kids = []api.Node{r.expression(true), r.block(), r.otherwise()}
	return n
}

// otherwise is what stands behind else, or None.
func (r *reader) otherwise() api.Node {
	switch {
	case !r.accept("else"):
		return api.Node{}
	case r.is("if"):
		return r.choose()
	}
	return r.block()
}

// cycle is a while or a loop, with its label, if it has one.
func (r *reader) cycle() api.Node {
	n := api.Node{At: r.next().At}
	if r.next().Kind == lex.Region {
		n.Text = r.take().Text
		r.want(":")
	}
	switch {
	case r.accept("while"):
		n.Kind = api.While
		n.Kids = []api.Node{r.expression(true), r.block()}
	case r.accept("loop"):
		n.Kind = api.Loop
		n.Kids = []api.Node{r.block()}
	default:
		panic(r.wrong(api.ErrWant))
	}
	return n
}

func (r *reader) match() api.Node {
	n := api.Node{Kind: api.Match, At: r.take().At}
	what := r.expression(true)
	r.want("{")
	n.Kids = r.with(what, "}", r.arm)
	return n
}

func (r *reader) arm() api.Node {
	p := r.pattern()
	r.want("=>")
	return api.Node{Kind: api.Arm, Kids: []api.Node{p, r.free()}, At: p.At}
}

// breaks leaves a label with ":" behind it to the loop that is its value.
func (r *reader) breaks(bare bool) api.Node {
	n := api.Node{Kind: api.Break, At: r.take().At}
	if r.next().Kind == lex.Region && r.ahead(1).Text != ":" {
		n.Text = r.take().Text
	}
	n.Kids = []api.Node{r.valueOrNone(bare)}
	return n
}

func (r *reader) continues() api.Node {
	n := api.Node{Kind: api.Continue, At: r.take().At}
	if r.next().Kind == lex.Region {
		n.Text = r.take().Text
	}
	return n
}

func (r *reader) returns(bare bool) api.Node {
	n := api.Node{Kind: api.Return, At: r.take().At}
	n.Kids = []api.Node{r.valueOrNone(bare)}
	return n
}

// valueOrNone is an expression, if one begins there.
func (r *reader) valueOrNone(bare bool) api.Node {
	if r.begins(bare) {
		return r.expression(bare)
	}
	return api.Node{}
}
