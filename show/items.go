package show

import "borrowdale/api"

func (w *writer) program(n api.Node) {
	for i, item := range n.Kids {
		if i > 0 {
			w.put("\n")
		}
		w.item(item)
		w.put("\n")
	}
}

func (w *writer) item(n api.Node) {
	switch n.Kind {
	case api.Struct:
		w.data("struct ", n, w.typed)
	case api.Choice:
		w.data("choice ", n, w.caseDecl)
	case api.Fn:
		w.function(n)
	}
}

// data puts a struct or a choice; part puts a field or a case.
func (w *writer) data(word string, n api.Node, part func(api.Node)) {
	if n.N == 1 {
		w.put("copy ")
	}
	w.put(word)
	w.head(n)
	w.put(" ")
	w.braced(n.Kids[2:], func(_ int, kid api.Node) {
		part(kid)
		w.put(",")
	})
}

// head puts an item's name, with its templates and its regions.
func (w *writer) head(n api.Node) {
	w.put(n.Text)
	w.listed("[", n.Kids[0].Kids, "]", w.name)
	w.regions(n.Kids[1])
}

func (w *writer) caseDecl(n api.Node) {
	w.put(n.Text)
	w.listed("(", n.Kids, ")", w.aType)
}

func (w *writer) function(n api.Node) {
	w.put("fn ")
	w.head(n)
	w.put("(")
	w.list(n.Kids[2].Kids, w.arg)
	w.put(")")
	if result := n.Kids[3]; result.Kind != api.None {
		w.put(" -> ")
		w.aType(result)
	}
	w.listed(" where ", n.Kids[4].Kids, "", w.where)
	w.put(" ")
	w.block(n.Kids[5])
}

func (w *writer) arg(n api.Node) {
	w.mut(n)
	w.typed(n)
}

func (w *writer) where(n api.Node) {
	w.put(n.Text, ": ", n.Kids[0].Text)
}
