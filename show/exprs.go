package show

import "borrowdale/api"

// free puts an expression of which nothing is asked.
func (w *writer) free(n api.Node) {
	w.expr(n, spot{})
}

// expr puts an expression, in ( ), if it must stand there. Within these nothing is asked.
func (w *writer) expr(n api.Node, s spot) {
	if !s.inParens(n) {
		w.plain(n, s)
		return
	}
	w.put("(")
	w.plain(n, spot{})
	w.put(")")
}

// plain puts an expression without ( ) around it.
func (w *writer) plain(n api.Node, s spot) {
	switch n.Kind {
	case api.Name:
		w.name(n)
	case api.Int:
		w.number(n.N)
	case api.Bool:
		w.truth(n.N)
	case api.Nothing:
		w.put("()")
	case api.Unary, api.Deref, api.Borrow:
		w.sign(n)
		w.expr(n.Kids[0], s.next(prefixed))
	case api.Binary:
		w.pair(n, n.Text, s)
	case api.Assign:
		w.pair(n, "=", s)
	case api.Field:
		w.expr(n.Kids[0], s.begin(posted))
		w.put(".", n.Text)
	case api.Call, api.Build, api.Case:
		w.named(n)
	case api.Break:
		w.leave("break", n, s)
	case api.Continue:
		w.leave("continue", n, s)
	case api.Return:
		w.leave("return", n, s)
	default:
		w.closed(n)
	}
}

// sign puts what stands ahead of a Unary's, a Deref's or a Borrow's Kid.
func (w *writer) sign(n api.Node) {
	switch n.Kind {
	case api.Unary:
		w.put(n.Text)
	case api.Deref:
		w.put("*")
	case api.Borrow:
		w.put("&")
		w.mut(n)
	}
}

// pair puts a Binary or an Assign.
func (w *writer) pair(n api.Node, operator string, s spot) {
	first, second := sides(n)
	w.expr(n.Kids[0], s.begin(first))
	w.put(" ", operator, " ")
	w.expr(n.Kids[1], s.next(second))
}

// named puts what begins with a name or a case, and has type arguments.
func (w *writer) named(n api.Node) {
	w.put(n.Text)
	w.typeArgs(n.Kids[0].Kids)
	rest := n.Kids[1:]
	switch {
	case n.Kind == api.Call:
		w.put("(")
		w.list(rest, w.free)
		w.put(")")
	case n.Kind == api.Case:
		w.listed("(", rest, ")", w.free)
	case len(rest) == 0:
		w.put(" {}")
	default:
		w.listed(" { ", rest, " }", w.fieldValue)
	}
}

func (w *writer) fieldValue(n api.Node) {
	w.put(n.Text, ": ")
	w.free(n.Kids[0])
}

// leave puts a Break, a Continue or a Return.
func (w *writer) leave(word string, n api.Node, s spot) {
	w.put(word)
	if n.Text != "" {
		w.put(" ", n.Text)
	}
	for _, value := range n.Kids {
		if value.Kind != api.None {
			w.put(" ")
			w.expr(value, s.next(loosest))
		}
	}
}
