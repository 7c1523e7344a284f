package expand

import (
	"strconv"

	"borrowdale/api"
)

// instance is a template for arguments: its name, and what number a type of this name has.
type instance struct {
	template api.Node
	args     []told
	name     string
	number   int
}

// item is the template, named like the instance, and for nothing but types that are told.
func (i instance) item() api.Node {
	n := i.template
	kids := append([]api.Node(nil), n.Kids...)
	kids[0].Kids = nil
	n.Text, n.Kids = i.name, kids
	return n
}

// instances is those that are needed, in order, and which one of them is for a template and arguments.
type instances struct {
	list  []instance
	which map[string]int
}

// key tells a template and arguments from all others.
func key(template int, args []told) string {
	text := strconv.AppendInt(nil, int64(template), 10)
	for _, arg := range args {
		text = append(text, ' ')
		text = strconv.AppendInt(text, int64(arg.number), 10)
	}
	return string(text)
}

// need is the instance of a template for arguments, or that there are too many, or that its name is too long.
func (x *expander) need(template int, args []told) (instance, bool) {
	k := key(template, args)
	if at, ok := x.needed.which[k]; ok {
		return x.needed.list[at], true
	}
	of := x.stock.list[template]
	if len(x.needed.list) == api.MaxCopies || x.mangledSize(of.Text, args) > api.MaxSource {
		return instance{}, false
	}
	i := instance{template: of, args: args, name: Mangle(of.Text, nodes(args))}
	if sortOf(of) == data {
		i.number = x.types.core(api.TName, i.name)
		if hasRegions(of) {
			x.types.ofCore(i.number).regions = true
		}
	}
	x.needed.which[k] = len(x.needed.list)
	x.needed.list = append(x.needed.list, i)
	return i, true
}

// mangledSize is how many bytes a mangled name has: it may be far too long to be built.
func (x *expander) mangledSize(name string, args []told) int {
	size := len(name) + len(between)
	for _, arg := range args {
		size += x.types.entries[arg.number].letters
	}
	return size
}
