package show

import "borrowdale/api"

func (w *writer) pattern(n api.Node) {
	switch n.Kind {
	case api.PAny:
		w.put("_")
	case api.PName:
		w.mut(n)
		w.put(n.Text)
	case api.PInt:
		w.number(n.N)
	case api.PBool:
		w.truth(n.N)
	case api.PCase:
		w.put(n.Text)
		w.listed("(", n.Kids, ")", w.pattern)
	}
}
