package parse

import (
	"borrowdale/api"
	"borrowdale/lex"
)

func (r *reader) pattern() api.Node {
	t := r.next()
	if t.Kind == lex.Number {
		return number(api.PInt, r.take())
	}
	switch t.Text {
	case "_":
		return api.Node{Kind: api.PAny, At: r.take().At}
	case "-":
		return r.negative()
	case "true", "false":
		return truth(api.PBool, r.take())
	case "mut":
		r.take()
		return api.Node{Kind: api.PName, Text: r.wantName().Text, N: 1, At: t.At}
	}
	return r.casePattern()
}

// negative is a number below 0: of each Number the negative one is there.
func (r *reader) negative() api.Node {
	at := r.take().At
	n := number(api.PInt, r.wantKind(lex.Number))
	n.N, n.At = -n.N, at
	return n
}

// casePattern is a case, or, without "::", a name.
func (r *reader) casePattern() api.Node {
	n := plain(api.PName, r.wantName())
	if !r.accept("::") {
		return n
	}
	n.Kind = api.PCase
	n.Text += "::" + r.wantName().Text
	if r.accept("(") {
		n.Kids = r.list(")", r.pattern)
	}
	return n
}
