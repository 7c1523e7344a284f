package decl

import (
	"slices"

	"borrowdale/api"
	"borrowdale/tree"
)

// reader makes types of trees.
type reader struct {
	book
	regions []string
	fresh   int // the next number that is free; below 1: nothing may be left out
	top     int // where the whole stands
}

// isType is whether a node is a type's tree, however deep: each node of it by itself, down to where it is told that something is wrong anyway.
func isType(n api.Node) bool {
	for range api.MaxDepth {
		if n.Kind == api.TName && len(n.Kids) > 1 {
			n.Kids = n.Kids[:1]
		}
		if !holdsType(n.Kind) || len(n.Kids) != 1 {
			return tree.Fits(n, tree.Type)
		}
		held := n.Kids[0]
		n.Kids = []api.Node{{Kind: api.TInt}}
		if !tree.Fits(n, tree.Type) {
			return false
		}
		n = held
	}
	return true
}

// holdsType is whether a Kind is that of a type that holds another one.
func holdsType(kind int) bool {
	return kind == api.TRef || kind == api.TBox || kind == api.TVec
}

// whole is the type of a whole tree, or the first error in it.
func (r *reader) whole(n api.Node) (api.Type, api.Fault) {
	r.top = n.At
	return r.read(n, 1)
}

// wholes is the types of several.
func (r *reader) wholes(l []api.Node) ([]api.Type, api.Fault) {
	var read []api.Type
	for _, n := range l {
		t, f := r.whole(n)
		if f.Kind != api.OK {
			return nil, f
		}
		read = append(read, t)
	}
	return read, api.Fault{}
}

// read is the type of a tree that lies so deep.
func (r *reader) read(n api.Node, deep int) (api.Type, api.Fault) {
	if deep > api.MaxDepth {
		return api.Type{}, api.Fault{Kind: api.ErrType, At: r.top}
	}
	switch n.Kind {
	case api.TInt:
		return api.Type{Kind: api.KInt}, api.Fault{}
	case api.TBool:
		return api.Type{Kind: api.KBool}, api.Fault{}
	case api.TUnit:
		return api.Type{Kind: api.KUnit}, api.Fault{}
	case api.TName:
		return r.data(n)
	case api.TBox:
		return r.holder(api.Type{Kind: api.KBox}, n, deep)
	case api.TVec:
		return r.holder(api.Type{Kind: api.KVec}, n, deep)
	}
	region, f := r.regionOf(n)
	if f.Kind != api.OK {
		return api.Type{}, f
	}
	return r.holder(api.Type{Kind: api.KRef, Region: region, Unique: n.N == 1}, n, deep)
}

// holder is a type that holds that of a node's Kid.
func (r *reader) holder(t api.Type, n api.Node, deep int) (api.Type, api.Fault) {
	held, f := r.read(n.Kids[0], deep+1)
	if f.Kind != api.OK {
		return api.Type{}, f
	}
	t.Args = []api.Type{held}
	return t, api.Fault{}
}

// data is the type of a TName.
func (r *reader) data(n api.Node) (api.Type, api.Fault) {
	t := api.Type{Kind: api.KData, Name: n.Text}
	d, ok := r.of(t)
	if !ok || len(n.Kids) > 1 {
		return api.Type{}, api.Fault{Kind: api.ErrType, At: n.At}
	}
	told := n.Kids[0].Kids
	if len(told) == 0 {
		regs, f := r.leftOut(d.Regions, n.At)
		t.Regs = regs
		return t, f
	}
	if len(told) != d.Regions {
		return api.Type{}, api.Fault{Kind: api.ErrRegion, At: n.At}
	}
	for _, name := range told {
		region, f := r.told(name)
		if f.Kind != api.OK {
			return api.Type{}, f
		}
		t.Regs = append(t.Regs, region)
	}
	return t, api.Fault{}
}

// regionOf is the region of a reference.
func (r *reader) regionOf(n api.Node) (int, api.Fault) {
	if n.Text != "" {
		return r.told(n)
	}
	l, f := r.leftOut(1, n.At)
	if f.Kind != api.OK {
		return 0, f
	}
	return l[0], api.Fault{}
}

// told is the region that a node's Text tells.
func (r *reader) told(n api.Node) (int, api.Fault) {
	region := 1 + slices.Index(r.regions, n.Text)
	if region == 0 {
		return 0, api.Fault{Kind: api.ErrRegion, At: n.At}
	}
	if region > api.MaxRegions {
		return 0, api.Fault{Kind: api.ErrType, At: n.At}
	}
	return region, api.Fault{}
}

// leftOut is numbers for regions that a node leaves out, if there are as many that are free.
func (r *reader) leftOut(count, at int) ([]int, api.Fault) {
	if count < 1 {
		return nil, api.Fault{}
	}
	if r.fresh < 1 {
		return nil, api.Fault{Kind: api.ErrRegion, At: at}
	}
	if count > api.MaxRegions+1-r.fresh {
		return nil, api.Fault{Kind: api.ErrType, At: at}
	}
	var l []int
	for range count {
		l = append(l, r.fresh)
		r.fresh++
	}
	return l, api.Fault{}
}
