package expand

import (
	"strconv"

	"borrowdale/api"
)

// Mangle is an instance's name.
func Mangle(name string, args []api.Node) string {
	if len(args) == 0 {
		return name
	}
	text := []byte(name + between)
	for _, arg := range args {
		text = spelt(text, arg)
	}
	return string(text)
}

// between stands between an instance's name and the letters of its arguments.
const between = "__"

// spelt is a text with a type's letters behind it.
func spelt(text []byte, n api.Node) []byte {
	switch n.Kind {
	case api.TInt:
		return append(text, 'i')
	case api.TBool:
		return append(text, 'b')
	case api.TUnit:
		return append(text, 'u')
	case api.TName:
		name := Mangle(n.Text, argsOf(n))
		text = strconv.AppendInt(text, int64(len(name)), 10)
		return append(text, name...)
	case api.TBox:
		text = append(text, 'B')
	case api.TVec:
		text = append(text, 'V')
	case api.TRef:
		text = append(text, 'R')
		if n.N == 1 {
			text = append(text, 'm')
		}
	default:
		return text
	}
	for _, kid := range n.Kids {
		text = spelt(text, kid)
	}
	return text
}

// argsOf is the types among a TName's Kids.
func argsOf(n api.Node) []api.Node {
	if len(n.Kids) == 0 {
		return nil
	}
	return n.Kids[1:]
}
