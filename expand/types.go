package expand

import "borrowdale/api"

// told is a type that is made: its tree, and its number in the register.
type told struct {
	node   api.Node
	number int
}

// nodes is the trees of types.
func nodes(l []told) []api.Node {
	var trees []api.Node
	for _, t := range l {
		trees = append(trees, t.node)
	}
	return trees
}

// never is the number of all types that are plain for no reason: those with a TRef in them, or with regions told.
const never = 0

// shape is what tells a type from the others: its Kind, its name, the number of what it holds.
type shape struct {
	kind  int
	text  string
	inner int
}

// entry is what is known of a type.
type entry struct {
	letters  int  // how many letters it has
	core     int  // the number of the type within its boxes and vectors
	regions  bool // of a core: it names what has regions
	template bool // of a core: it names a template
}

// register is the types that have no TRef in them and no regions told, each of which has one number, wherever it stands: an argument can be held against others, and asked what is known of it, however great it has become.
type register struct {
	numbers map[shape]int
	entries []entry
}

func newRegister() *register {
	return &register{numbers: map[shape]int{}, entries: make([]entry, never+1)}
}

// add is the number of a type that is new.
func (r *register) add(s shape, e entry) int {
	number := len(r.entries)
	r.numbers[s] = number
	r.entries = append(r.entries, e)
	return number
}

// core is the number of a type that holds no other one.
func (r *register) core(kind int, text string) int {
	s := shape{kind: kind, text: text}
	if number, ok := r.numbers[s]; ok {
		return number
	}
	letters := len(spelt(nil, api.Node{Kind: kind, Text: text}))
	return r.add(s, entry{letters: letters, core: len(r.entries)})
}

// holder is the number of a type that holds another one.
func (r *register) holder(kind, inner int) int {
	if kind == api.TRef || inner == never {
		return never
	}
	s := shape{kind: kind, inner: inner}
	if number, ok := r.numbers[s]; ok {
		return number
	}
	held := r.entries[inner]
	return r.add(s, entry{letters: held.letters + 1, core: held.core})
}

// ofCore is what is known of the type within a type's boxes and vectors.
func (r *register) ofCore(number int) *entry {
	return &r.entries[r.entries[number].core]
}

// isPlain is whether a type is plain.
func (r *register) isPlain(number int) bool {
	return number != never && !r.ofCore(number).regions
}

// coreOf is the type within a type's boxes and vectors.
func coreOf(n api.Node) api.Node {
	for n.Kind == api.TBox || n.Kind == api.TVec {
		n = n.Kids[0]
	}
	return n
}
