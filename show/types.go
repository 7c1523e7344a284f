package show

import "borrowdale/api"

func (w *writer) aType(n api.Node) {
	switch n.Kind {
	case api.TInt:
		w.put("int")
	case api.TBool:
		w.put("bool")
	case api.TUnit:
		w.put("unit")
	case api.TRef:
		w.reference(n)
	case api.TBox:
		w.listed("Box[", n.Kids, "]", w.aType)
	case api.TVec:
		w.listed("Vec[", n.Kids, "]", w.aType)
	case api.TName:
		w.put(n.Text)
		w.typeArgs(n.Kids[1:])
		w.regions(n.Kids[0])
	}
}

func (w *writer) reference(n api.Node) {
	w.put("&")
	if n.Text != "" {
		w.put(n.Text, " ")
	}
	w.mut(n)
	w.aType(n.Kids[0])
}

// typeArgs puts types in [ ].
func (w *writer) typeArgs(l []api.Node) {
	w.listed("[", l, "]", w.aType)
}

// regions puts the Names of regions.
func (w *writer) regions(n api.Node) {
	w.listed("<", n.Kids, ">", w.name)
}

// typed puts a name with its type behind it.
func (w *writer) typed(n api.Node) {
	w.put(n.Text, ": ")
	w.aType(n.Kids[0])
}
