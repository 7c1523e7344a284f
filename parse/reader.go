package parse

import (
	"slices"
	"strconv"

	"borrowdale/api"
	"borrowdale/lex"
)

// reader goes through a source's tokens, and never back. What can't go on is thrown (as an api.Fault) ahead of the token that isn't wanted.
type reader struct {
	tokens []api.Token
	taken  int // how many of them
	size   int // the source's length
}

// ahead is the token behind n others that aren't taken yet; where there is none, one without a Kind, at the source's length.
func (r *reader) ahead(n int) api.Token {
	if r.taken+n < len(r.tokens) {
		return r.tokens[r.taken+n]
	}
	return api.Token{At: r.size}
}

// next is the first token that isn't taken yet.
func (r *reader) next() api.Token {
	return r.ahead(0)
}

// left is whether there is one.
func (r *reader) left() bool {
	return r.taken < len(r.tokens)
}

// end is where nothing may be left over.
func (r *reader) end() {
	if r.left() {
		panic(r.wrong(api.ErrRest))
	}
}

// wrong is a fault at the next token.
func (r *reader) wrong(kind api.Errno) api.Fault {
	return api.Fault{Kind: kind, At: r.next().At}
}

// is asks for the Text alone: no two kinds of tokens have one in common.
func (r *reader) is(text string) bool {
	return r.next().Text == text
}

func (r *reader) take() api.Token {
	t := r.next()
	r.taken++
	return t
}

// accept takes a token, if it stands there.
func (r *reader) accept(text string) bool {
	if !r.is(text) {
		return false
	}
	r.take()
	return true
}

// want takes a token that must stand there.
func (r *reader) want(text string) api.Token {
	if !r.is(text) {
		panic(r.wrong(api.ErrWant))
	}
	return r.take()
}

// wantKind takes a token of a kind that must stand there.
func (r *reader) wantKind(kind int) api.Token {
	if r.next().Kind != kind {
		panic(r.wrong(api.ErrWant))
	}
	return r.take()
}

// wantName takes a name that must stand there.
func (r *reader) wantName() api.Token {
	if !isName(r.next()) {
		panic(r.wrong(api.ErrWant))
	}
	return r.take()
}

// isName is whether a token is a name.
func isName(t api.Token) bool {
	return t.Kind == lex.Word && t.Text != "_" && !lex.Keyword(t.Text)
}

// list is parts with "," between, and maybe one behind, up to the sign that closes them.
func (r *reader) list(closing string, part func() api.Node) []api.Node {
	var l []api.Node
	for !r.is(closing) {
		l = append(l, part())
		if !r.accept(",") {
			break
		}
	}
	r.want(closing)
	return l
}

// chain is parts with "," between, one at least, and none of it behind.
func (r *reader) chain(part func() api.Node) []api.Node {
	l := []api.Node{part()}
	for r.accept(",") {
		l = append(l, part())
	}
	return l
}

// bracketed is a node of parts in [ ], one at least, or one without Kids, where no [ stands.
func (r *reader) bracketed(kind int, part func() api.Node) api.Node {
	n := api.Node{Kind: kind}
	if !r.is("[") {
		return n
	}
	n.At = r.take().At
	if r.is("]") {
		panic(r.wrong(api.ErrWant))
	}
	n.Kids = r.list("]", part)
	return n
}

// mut is the N of what may have a mut ahead.
func (r *reader) mut() int64 {
	if r.accept("mut") {
		return 1
	}
	return 0
}

// ands is a node for an "&", or two for an "&&".
func (r *reader) ands(kind int) []api.Node {
	t := r.take()
	l := []api.Node{{Kind: kind, At: t.At}}
	if t.Text == "&&" {
		l = append(l, api.Node{Kind: kind, At: t.At + 1})
	}
	return l
}

// around is a node within others, of which the first one is the outermost.
func around(outer []api.Node, n api.Node) api.Node {
	for _, o := range slices.Backward(outer) {
		o.Kids = []api.Node{n}
		n = o
	}
	return n
}

// plain is a node of a token without Kids.
func plain(kind int, t api.Token) api.Node {
	return api.Node{Kind: kind, Text: t.Text, At: t.At}
}

// name takes a name.
func (r *reader) name() api.Node {
	return plain(api.Name, r.wantName())
}

// region takes a region.
func (r *reader) region() api.Node {
	return plain(api.Name, r.wantKind(lex.Region))
}

// number is a node of a Number. Layer 2 has seen to it that it fits.
func number(kind int, t api.Token) api.Node {
	n, _ := strconv.ParseInt(t.Text, 10, 64)
	return api.Node{Kind: kind, N: n, At: t.At}
}

// truth is a node of true or false.
func truth(kind int, t api.Token) api.Node {
	n := api.Node{Kind: kind, At: t.At}
	if t.Text == "true" {
		n.N = 1
	}
	return n
}
