package parse

import (
	"borrowdale/api"
	"borrowdale/lex"
)

func (r *reader) block() api.Node {
	n := api.Node{Kind: api.Block, At: r.want("{").At}
	for !r.is("}") {
		n.Kids = append(n.Kids, r.statement())
	}
	r.take()
	if k := len(n.Kids); k == 0 || isStatement(n.Kids[k-1]) {
		n.Kids = append(n.Kids, api.Node{})
	}
	return n
}

// isStatement is whether a node of a block is none that it ends with.
func isStatement(n api.Node) bool {
	return n.Kind == api.Let || n.Kind == api.Eval
}

// statement is a statement, or the expression that a block ends with: that one stands ahead of "}", so that nothing follows it.
func (r *reader) statement() api.Node {
	if r.is("let") {
		return r.let()
	}
	closed := r.closed()
	var n api.Node
	if closed {
		n = r.primary(false)
	} else {
		n = r.free()
	}
	if r.is("}") {
		return n
	}
	if !r.accept(";") && !closed {
		panic(r.wrong(api.ErrWant))
	}
	return api.Node{Kind: api.Eval, Kids: []api.Node{n}, At: n.At}
}

// closed is whether the next token begins what needs no ";" behind it.
func (r *reader) closed() bool {
	switch r.next().Text {
	case "if", "while", "loop", "match", "{":
		return true
	}
	return r.next().Kind == lex.Region
}

func (r *reader) let() api.Node {
	n := api.Node{Kind: api.Let, At: r.take().At}
	n.N = r.mut()
	n.Text = r.wantName().Text
	n.Kids = make([]api.Node, 2)
	if r.accept(":") {
		n.Kids[0] = r.aType()
	}
	if r.accept("=") {
		n.Kids[1] = r.free()
	}
	r.want(";")
	return n
}
