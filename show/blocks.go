package show

import "borrowdale/api"

// closed puts an expression that needs no ";" behind it.
func (w *writer) closed(n api.Node) {
	switch n.Kind {
	case api.If:
		w.choose(n)
	case api.While:
		w.label(n)
		w.put("while ")
		w.bare(n.Kids[0])
		w.put(" ")
		w.block(n.Kids[1])
	case api.Loop:
		w.label(n)
		w.put("loop ")
		w.block(n.Kids[0])
	case api.Match:
		w.match(n)
	case api.Block:
		w.block(n)
	}
}

// bare puts a condition, or what is matched.
func (w *writer) bare(n api.Node) {
	w.expr(n, spot{bare: true})
}

func (w *writer) label(n api.Node) {
	if n.Text != "" {
		w.put(n.Text, ": ")
	}
}

func (w *writer) choose(n api.Node) {
	w.put("if ")
	w.bare(n.Kids[0])
	w.put(" ")
	w.block(n.Kids[1])
	if otherwise := n.Kids[2]; otherwise.Kind != api.None {
		w.put(" else ")
		w.closed(otherwise)
	}
}

func (w *writer) match(n api.Node) {
	w.put("match ")
	w.bare(n.Kids[0])
	w.put(" ")
	arms := n.Kids[1:]
	w.braced(arms, func(i int, arm api.Node) {
		w.arm(arm)
		if w.lines || i < len(arms)-1 {
			w.put(",")
		}
	})
}

func (w *writer) arm(n api.Node) {
	w.pattern(n.Kids[0])
	w.put(" => ")
	w.free(n.Kids[1])
}

func (w *writer) block(n api.Node) {
	last := len(n.Kids) - 1
	parts, open := n.Kids, n.Kids[last].Kind == api.None
	if open {
		parts = n.Kids[:last]
	}
	w.braced(parts, func(i int, part api.Node) {
		w.part(part, open && i == last-1)
	})
}

// part puts a statement, or what a block ends with. Where a block ends with a statement, that one has a ";", whatever it is: it would be taken for what the block ends with.
func (w *writer) part(n api.Node, ends bool) {
	switch n.Kind {
	case api.Let:
		w.let(n)
	case api.Eval:
		inner := n.Kids[0]
		w.expr(inner, whole(inner))
		if ends || !isClosed(inner.Kind) {
			w.put(";")
		}
	default:
		w.expr(n, whole(n))
	}
}

func (w *writer) let(n api.Node) {
	w.put("let ")
	w.mut(n)
	w.put(n.Text)
	if t := n.Kids[0]; t.Kind != api.None {
		w.put(": ")
		w.aType(t)
	}
	if value := n.Kids[1]; value.Kind != api.None {
		w.put(" = ")
		w.free(value)
	}
	w.put(";")
}
