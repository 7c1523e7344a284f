package kind

import "borrowdale/api"

// list is a list of types, told by where it begins and how many it has.
type list struct {
	first *api.Type
	n     int
}

// open stands for how deep a list is, as long as that isn't known: a list that is met within itself has no end.
const open = -1

// measure tells how deep types are. It keeps what it has told of lists of more than one, so that what stands in a type in very many ways is gone through once.
type measure struct {
	known   map[list]int
	endless bool
}

// depth is how deep a type is, which may have so many levels.
func (m *measure) depth(t api.Type, levels int) int {
	m.endless = m.endless || levels == 0
	if m.endless {
		return 0
	}
	return 1 + m.deepest(t.Args, levels-1)
}

// deepest is how deep the deepest one is of some that may have so many levels.
func (m *measure) deepest(args []api.Type, levels int) int {
	if len(args) == 0 {
		return 0
	}
	if len(args) == 1 {
		return m.depth(args[0], levels)
	}
	l := list{first: &args[0], n: len(args)}
	if d, ok := m.known[l]; ok {
		m.endless = m.endless || d == open
		return d
	}
	if m.known == nil {
		m.known = map[list]int{}
	}
	m.known[l] = open
	most := 0
	for _, a := range args {
		most = max(most, m.depth(a, levels))
	}
	m.known[l] = most
	return most
}
