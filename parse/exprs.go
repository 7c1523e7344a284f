package parse

import (
	"borrowdale/api"
	"borrowdale/lex"
)

// How closely a Binary binds.
const (
	loosest  = 1
	compared = 3
	closest  = 5
)

// rank is how closely a token binds what stands on both sides of it; 0: it doesn't.
func rank(text string) int {
	switch text {
	case "||":
		return loosest
	case "&&":
		return 2
	case "==", "!=", "<", "<=", ">", ">=":
		return compared
	case "+", "-":
		return 4
	case "*", "/", "%":
		return closest
	}
	return 0
}

// free is an expression that isn't bare.
func (r *reader) free() api.Node {
	return r.expression(false)
}

// expression is the longest one that stands there. Where it is bare, a "{" begins what follows it.
func (r *reader) expression(bare bool) api.Node {
	n := r.binary(loosest, bare)
	if !r.accept("=") {
		return n
	}
	return api.Node{Kind: api.Assign, Kids: []api.Node{n, r.expression(bare)}, At: n.At}
}

// binary is a prefixed one, or Binaries that bind as closely as least at the least.
func (r *reader) binary(least int, bare bool) api.Node {
	n := r.prefixed(bare)
	for most := closest; ; {
		t := r.next()
		k := rank(t.Text)
		if k < least || k > most {
			return n
		}
		r.take()
		n = api.Node{Kind: api.Binary, Text: t.Text, Kids: []api.Node{n, r.binary(k+1, bare)}, At: n.At}
		most = k
		// Of a comparison nothing is compared.
		if k == compared {
			most--
		}
	}
}

func (r *reader) prefixed(bare bool) api.Node {
	signs := r.signs()
	return around(signs, r.posted(bare))
}

// signs is all signs ahead of an expression.
func (r *reader) signs() []api.Node {
	var l []api.Node
	for {
		switch r.next().Text {
		case "-", "!":
			l = append(l, plain(api.Unary, r.take()))
		case "*":
			l = append(l, api.Node{Kind: api.Deref, At: r.take().At})
		case "&", "&&":
			l = append(l, r.ands(api.Borrow)...)
			l[len(l)-1].N = r.mut()
		default:
			return l
		}
	}
}

func (r *reader) posted(bare bool) api.Node {
	n := r.primary(bare)
	for r.accept(".") {
		n = api.Node{Kind: api.Field, Text: r.wantName().Text, Kids: []api.Node{n}, At: n.At}
	}
	return n
}

// begins is whether the next token begins an expression.
func (r *reader) begins(bare bool) bool {
	t := r.next()
	switch t.Text {
	case "(", "-", "!", "*", "&", "&&",
		"true", "false", "if", "while", "loop", "break", "continue", "return", "match":
		return true
	case "{":
		return !bare
	}
	return t.Kind == lex.Number || t.Kind == lex.Region || isName(t)
}
