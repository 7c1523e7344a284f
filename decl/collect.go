package decl

import "borrowdale/api"

// declaring is the items that declare something: structs and choices without templates.
func declaring(items []api.Node) []api.Node {
	var l []api.Node
	for _, item := range items {
		if item.Kind != api.Fn && len(item.Kids[0].Kids) == 0 {
			l = append(l, item)
		}
	}
	return l
}

// regionsOf is an item's regions.
func regionsOf(item api.Node) []string {
	return texts(item.Kids[1].Kids)
}

// insideOf is an item's fields or cases.
func insideOf(item api.Node) []api.Node {
	return item.Kids[2:]
}

// texts is the texts of nodes.
func texts(l []api.Node) []string {
	var all []string
	for _, n := range l {
		all = append(all, n.Text)
	}
	return all
}

// collected is what items declare, or the first error that isn't Right's.
func collected(items []api.Node) ([]api.Data, api.Fault) {
	l, f := headers(items)
	if f.Kind != api.OK {
		return nil, f
	}
	r := reader{book: book{l: l, where: listed(l)}}
	for i, item := range items {
		if l[i].Regions > maxRegions {
			return nil, api.Fault{Kind: api.ErrRegion, At: item.At}
		}
		r.regions = regionsOf(item)
		l[i].Parts, f = r.parts(item)
		if f.Kind != api.OK {
			return nil, f
		}
	}
	return l, api.Fault{}
}

// headers is what items declare, without their parts, or the first item with a name twice.
func headers(items []api.Node) ([]api.Data, api.Fault) {
	var l []api.Data
	seen := map[string]bool{}
	for _, item := range items {
		regions := regionsOf(item)
		if seen[item.Text] || repeats(regions) || repeats(texts(insideOf(item))) {
			return nil, api.Fault{Kind: api.ErrTwice, At: item.At}
		}
		seen[item.Text] = true
		l = append(l, api.Data{Name: item.Text, Choice: item.Kind == api.Choice, Copy: item.N == 1, Regions: len(regions), At: item.At})
	}
	return l, api.Fault{}
}

// parts is an item's parts.
func (r *reader) parts(item api.Node) ([]api.Part, api.Fault) {
	if item.Kind == api.Struct {
		return r.fields(insideOf(item))
	}
	var l []api.Part
	for _, c := range insideOf(item) {
		held, f := r.wholes(c.Kids)
		if f.Kind != api.OK {
			return nil, f
		}
		l = append(l, api.Part{Name: c.Text, Types: held})
	}
	return l, api.Fault{}
}

// fields is the only part of a struct with these.
func (r *reader) fields(l []api.Node) ([]api.Part, api.Fault) {
	var trees []api.Node
	for _, field := range l {
		trees = append(trees, field.Kids...)
	}
	held, f := r.wholes(trees)
	if f.Kind != api.OK {
		return nil, f
	}
	return []api.Part{{Names: texts(l), Types: held}}, api.Fault{}
}
