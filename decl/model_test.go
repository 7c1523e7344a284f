package decl_test

import (
	"regexp"
	"slices"

	"borrowdale/api"
	"borrowdale/kind"
)

// The chapter, written out plainly, however long that takes.

var aName = regexp.MustCompile(`^[A-Za-z_][A-Za-z0-9_]{0,199}$`)

// modelName is whether a KData can be called so.
func modelName(s string) bool {
	return aName.MatchString(s) && s != "int" && s != "bool" && s != "unit"
}

// modelOf is the declarations of a name; the first one is the one that is meant.
func modelOf(l []api.Data, name string) []api.Data {
	var found []api.Data
	for _, d := range l {
		if d.Name == name {
			found = append(found, d)
		}
	}
	return found
}

// modelDatas is all KDatas that a type is, or has inside.
func modelDatas(t api.Type) []api.Type {
	var found []api.Type
	if t.Kind == api.KData {
		found = append(found, t)
	}
	for _, a := range t.Args {
		found = append(found, modelDatas(a)...)
	}
	return found
}

// modelTypes is all types of a declaration.
func modelTypes(d api.Data) []api.Type {
	var all []api.Type
	for _, p := range d.Parts {
		all = append(all, p.Types...)
	}
	return all
}

// modelTwice is whether something of a list is there twice.
func modelTwice(l []string) bool {
	for i := range l {
		if slices.Contains(l[:i], l[i]) {
			return true
		}
	}
	return false
}

// modelWrong is the first error of declaration i by itself.
func modelWrong(l []api.Data, i int) api.Errno {
	d := l[i]
	var parts []string
	twice := len(modelOf(l[:i], d.Name)) > 0
	bad := !modelName(d.Name) || d.Regions > 20 || d.Regions < 0 || !d.Choice && len(d.Parts) != 1
	for _, p := range d.Parts {
		parts = append(parts, p.Name)
		twice = twice || modelTwice(p.Names)
		if d.Choice {
			bad = bad || len(p.Names) > 0 || !modelName(p.Name)
		} else {
			bad = bad || p.Name != "" || len(p.Names) != len(p.Types)
		}
		for _, name := range p.Names {
			bad = bad || !modelName(name)
		}
	}
	if twice || modelTwice(parts) {
		return api.ErrTwice
	}
	region := false
	for _, t := range modelTypes(d) {
		bad = bad || !kind.Right(t)
		for _, in := range modelDatas(t) {
			of := modelOf(l, in.Name)
			bad = bad || len(of) == 0
			region = region || len(of) > 0 && of[0].Regions != len(in.Regs)
		}
		for _, r := range kind.Regions(t) {
			region = region || r < 1 || r > d.Regions
		}
	}
	switch {
	case bad:
		return api.ErrType
	case region:
		return api.ErrRegion
	}
	return api.OK
}

// modelHolds is, of each two declarations, whether the one holds the other.
func modelHolds(l []api.Data) map[string]map[string]bool {
	holds := map[string]map[string]bool{}
	for _, d := range l {
		holds[d.Name] = map[string]bool{}
		for _, t := range modelTypes(d) {
			if t.Kind == api.KData {
				holds[d.Name][t.Name] = true
			}
		}
	}
	for range l {
		for _, a := range l {
			for _, b := range l {
				for _, c := range l {
					if holds[a.Name][b.Name] && holds[b.Name][c.Name] {
						holds[a.Name][c.Name] = true
					}
				}
			}
		}
	}
	return holds
}

// modelCopy is whether a type is copied.
func modelCopy(l []api.Data, t api.Type) bool {
	switch t.Kind {
	case api.KInt, api.KBool, api.KUnit:
		return true
	case api.KRef:
		return !t.Unique
	case api.KData:
		of := modelOf(l, t.Name)
		return len(of) > 0 && of[0].Copy
	}
	return false
}

// modelRight is what Right says.
func modelRight(l []api.Data) api.Fault {
	for i, d := range l {
		if e := modelWrong(l, i); e != api.OK {
			return api.Fault{Kind: e, At: d.At}
		}
	}
	holds := modelHolds(l)
	for _, d := range l {
		if holds[d.Name][d.Name] {
			return api.Fault{Kind: api.ErrSize, At: d.At}
		}
	}
	for _, d := range l {
		for _, t := range modelTypes(d) {
			if d.Copy && !modelCopy(l, t) {
				return api.Fault{Kind: api.ErrCopy, At: d.At}
			}
		}
	}
	return api.Fault{}
}

// modelDrops is whether a type of right declarations needs a drop: what holds itself isn't among them.
func modelDrops(l []api.Data, t api.Type) bool {
	switch t.Kind {
	case api.KBox, api.KVec:
		return true
	case api.KData:
		for _, d := range modelOf(l, t.Name) {
			for _, field := range modelTypes(d) {
				if modelDrops(l, field) {
					return true
				}
			}
		}
	}
	return false
}

// modelVariance is the variances of all declarations' regions, by their names.
func modelVariance(l []api.Data) map[string][]int {
	v := map[string][]int{}
	for _, d := range l {
		v[d.Name] = slices.Repeat([]int{1}, d.Regions)
	}
	for changed := true; changed; {
		changed = false
		var look func(name string, t api.Type, within bool)
		raise := func(name string, r int) {
			if v[name][r-1] == 1 {
				v[name][r-1] = 2
				changed = true
			}
		}
		look = func(name string, t api.Type, within bool) {
			if t.Kind == api.KRef && within {
				raise(name, t.Region)
			}
			for i, r := range t.Regs {
				if within || v[t.Name][i] == 2 {
					raise(name, r)
				}
			}
			for _, a := range t.Args {
				look(name, a, within || t.Unique)
			}
		}
		for _, d := range l {
			for _, t := range modelTypes(d) {
				look(d.Name, t, false)
			}
		}
	}
	return v
}

// modelType is what Type says of a type's tree that fits.
func modelType(l []api.Data, n api.Node, regions []string, fresh int) (api.Type, int, api.Fault) {
	t, next, f := modelNode(l, n, regions, fresh)
	if f.Kind != api.OK {
		return api.Type{}, fresh, f
	}
	return t, next, f
}

// modelRegion is a region's number: told, or the next one that is free.
func modelRegion(text string, at int, regions []string, next int) (int, int, api.Fault) {
	switch {
	case text == "" && next < 1:
		return 0, 0, api.Fault{Kind: api.ErrRegion, At: at}
	case text == "" && next > 500:
		return 0, 0, api.Fault{Kind: api.ErrType, At: at}
	case text == "":
		return next, next + 1, api.Fault{}
	case !slices.Contains(regions, text):
		return 0, 0, api.Fault{Kind: api.ErrRegion, At: at}
	}
	return slices.Index(regions, text) + 1, next, api.Fault{}
}

// modelNode is the type of a node, with next for the next number that is free.
func modelNode(l []api.Data, n api.Node, regions []string, next int) (t api.Type, after int, f api.Fault) {
	t.Kind = map[int]int{api.TInt: api.KInt, api.TBool: api.KBool, api.TUnit: api.KUnit, api.TName: api.KData, api.TRef: api.KRef, api.TBox: api.KBox, api.TVec: api.KVec}[n.Kind]
	switch n.Kind {
	case api.TName:
		t.Name = n.Text
		of := modelOf(l, n.Text)
		if len(of) == 0 || len(n.Kids) > 1 {
			return t, 0, api.Fault{Kind: api.ErrType, At: n.At}
		}
		told := n.Kids[0].Kids
		if len(told) > 0 && len(told) != of[0].Regions {
			return t, 0, api.Fault{Kind: api.ErrRegion, At: n.At}
		}
		for i := range of[0].Regions {
			text, at := "", n.At
			if len(told) > 0 {
				text, at = told[i].Text, told[i].At
			}
			var r int
			if r, next, f = modelRegion(text, at, regions, next); f.Kind != api.OK {
				return t, 0, f
			}
			t.Regs = append(t.Regs, r)
		}
	case api.TRef:
		t.Unique = n.N == 1
		if t.Region, next, f = modelRegion(n.Text, n.At, regions, next); f.Kind != api.OK {
			return t, 0, f
		}
	}
	if n.Kind == api.TRef || n.Kind == api.TBox || n.Kind == api.TVec {
		var in api.Type
		in, next, f = modelNode(l, n.Kids[0], regions, next)
		t.Args = []api.Type{in}
	}
	return t, next, f
}
