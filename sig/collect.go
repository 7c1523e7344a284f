package sig

import (
	"slices"

	"borrowdale/api"
	"borrowdale/decl"
	"borrowdale/kind"
)

// function is a function's tree.
type function struct {
	name    string
	regions []string
	args    []api.Node
	result  api.Node
	wheres  []api.Node
	at      int
}

// functions is the functions among items, but those with templates.
func functions(items []api.Node) []function {
	var l []function
	for _, n := range items {
		if n.Kind != api.Fn || len(n.Kids[0].Kids) > 0 {
			continue
		}
		l = append(l, function{name: n.Text, regions: texts(n.Kids[1].Kids), args: n.Kids[2].Kids, result: n.Kids[3], wheres: n.Kids[4].Kids, at: n.At})
	}
	return l
}

// texts is the texts of nodes.
func texts(l []api.Node) []string {
	var all []string
	for _, n := range l {
		all = append(all, n.Text)
	}
	return all
}

// signature is what a function takes and gives, or its first error.
func (f function) signature(l []api.Data) (api.Sig, api.Fault) {
	if e := f.wrong(); e != api.OK {
		return api.Sig{}, api.Fault{Kind: e, At: f.at}
	}
	r := reader{function: f, l: l, free: len(f.regions) + 1, s: api.Sig{Name: f.name}}
	for _, step := range []func() api.Fault{r.params, r.gives, r.says} {
		if fault := step(); fault.Kind != api.OK {
			return api.Sig{}, fault
		}
	}
	if f.name == "main" && !mayBeMain(r.s) {
		return api.Sig{}, api.Fault{Kind: api.ErrFn, At: f.at}
	}
	return r.s, api.Fault{}
}

// wrong is what is wrong with a function ahead of its types.
func (f function) wrong() api.Errno {
	switch {
	case repeats(f.regions) || repeats(texts(f.args)):
		return api.ErrTwice
	case len(f.regions) > maxNamed || len(f.args) > maxParams || len(f.wheres) > maxWhere || len(f.name) > maxLetters:
		return api.ErrMany
	}
	return api.OK
}

// repeats is whether two of a list are the same.
func repeats(l []string) bool {
	l = slices.Sorted(slices.Values(l))
	return len(slices.Compact(l)) < len(l)
}

// mayBeMain is whether main can have a signature.
func mayBeMain(s api.Sig) bool {
	switch s.Result.Kind {
	case api.KInt, api.KBool, api.KUnit:
		return len(s.Params) == 0 && s.Regions == 0
	}
	return false
}

// reader makes a signature of a function's tree.
type reader struct {
	function
	l    []api.Data
	free int // the next number that is free
	s    api.Sig
}

// read is the type of a tree.
func (r *reader) read(n api.Node) (api.Type, api.Fault) {
	t, free, fault := decl.Type(r.l, n, r.regions, r.free)
	r.free = free
	return t, fault
}

// params reads what the function takes.
func (r *reader) params() api.Fault {
	for _, arg := range r.args {
		t, fault := r.read(arg.Kids[0])
		if fault.Kind != api.OK {
			return fault
		}
		r.s.Params = append(r.s.Params, t)
	}
	r.s.Regions = r.free - 1
	return api.Fault{}
}

// gives reads what it gives.
func (r *reader) gives() api.Fault {
	if r.result.Kind == api.None {
		r.s.Result = api.Type{Kind: api.KUnit}
		return api.Fault{}
	}
	t, fault := r.read(r.result)
	if fault.Kind != api.OK {
		return fault
	}
	leftOut := r.free - 1 - r.s.Regions
	if leftOut == 0 {
		r.s.Result = t
		return api.Fault{}
	}
	only, ok := onlyRegion(r.s.Params)
	if !ok {
		return api.Fault{Kind: api.ErrElide, At: r.result.At}
	}
	r.s.Result = kind.Map(t, elided(r.s.Regions, leftOut, only))
	return api.Fault{}
}

// onlyRegion is the region that stands in types, if there is just one.
func onlyRegion(l []api.Type) (int, bool) {
	var regions []int
	for _, t := range l {
		regions = append(regions, kind.Regions(t)...)
	}
	slices.Sort(regions)
	regions = slices.Compact(regions)
	if len(regions) != 1 {
		return 0, false
	}
	return regions[0], true
}

// elided is numbers by which so many regions stay, and for those that are left out behind them the only one stands.
func elided(regions, leftOut, only int) []int {
	var by []int
	for r := range regions + 1 {
		by = append(by, r)
	}
	return append(by, slices.Repeat([]int{only}, leftOut)...)
}

// says reads which regions outlive which.
func (r *reader) says() api.Fault {
	for _, w := range r.wheres {
		a := 1 + slices.Index(r.regions, w.Text)
		b := 1 + slices.Index(r.regions, w.Kids[0].Text)
		if a == 0 || b == 0 {
			return api.Fault{Kind: api.ErrRegion, At: w.At}
		}
		r.s.Where = append(r.s.Where, api.Outlives{A: a, B: b})
	}
	return api.Fault{}
}
