package expand

import "borrowdale/api"

// The sorts of items.
const (
	data      = 0 // structs and choices
	functions = 1
	sorts     = 2
)

// sortOf is an item's sort.
func sortOf(item api.Node) int {
	if item.Kind == api.Fn {
		return functions
	}
	return data
}

// templatesOf is the names of an item that stand for types.
func templatesOf(item api.Node) []string {
	var l []string
	for _, name := range item.Kids[0].Kids {
		l = append(l, name.Text)
	}
	return l
}

// arity is how many of them there are.
func arity(item api.Node) int {
	return len(item.Kids[0].Kids)
}

// isTemplate is whether an item is a template.
func isTemplate(item api.Node) bool {
	return arity(item) > 0
}

// hasRegions is whether an item has regions.
func hasRegions(item api.Node) bool {
	return len(item.Kids[1].Kids) > 0
}

// stock is a program's templates, in order, and the number of each one by its sort and its name.
type stock struct {
	list    []api.Node
	numbers [sorts]map[string]int
}

// stocked is the templates among items, or the first item whose name, or one of whose templates' names, is there already.
func stocked(items []api.Node) (stock, api.Fault) {
	s := stock{numbers: [sorts]map[string]int{{}, {}}}
	taken := [sorts]map[string]bool{{}, {}}
	for _, item := range items {
		sort := sortOf(item)
		_, ahead := s.find(sort, item.Text)
		if ahead || isTemplate(item) && taken[sort][item.Text] || hasTwice(templatesOf(item)) {
			return stock{}, api.Fault{Kind: api.ErrTwice, At: item.At}
		}
		taken[sort][item.Text] = true
		if isTemplate(item) {
			s.numbers[sort][item.Text] = len(s.list)
			s.list = append(s.list, item)
		}
	}
	return s, api.Fault{}
}

// find is the number of the template of a sort with a name.
func (s stock) find(sort int, name string) (int, bool) {
	i, ok := s.numbers[sort][name]
	return i, ok
}

// hasTwice is whether a name stands twice in a list.
func hasTwice(names []string) bool {
	return len(placesOf(names)) < len(names)
}
