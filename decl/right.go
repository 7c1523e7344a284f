package decl

import (
	"borrowdale/api"
	"borrowdale/kind"
)

// wrong is the first error of a declaration by itself.
func (b book) wrong(i int) api.Errno {
	d := b.l[i]
	if first, _ := b.where(d.Name); first < i || namesTwice(d) {
		return api.ErrTwice
	}
	if !mayBe(d) || !b.rightTypes(d) {
		return api.ErrType
	}
	if !b.rightRegions(d) {
		return api.ErrRegion
	}
	return api.OK
}

// namesTwice is whether two parts, or two fields of a part, have one name.
func namesTwice(d api.Data) bool {
	var parts []string
	for _, p := range d.Parts {
		if repeats(p.Names) {
			return true
		}
		parts = append(parts, p.Name)
	}
	return repeats(parts)
}

// repeats is whether two names of a list are the same.
func repeats(names []string) bool {
	seen := map[string]bool{}
	for _, name := range names {
		if seen[name] {
			return true
		}
		seen[name] = true
	}
	return false
}

// mayBe is whether a declaration may be, whatever its types are.
func mayBe(d api.Data) bool {
	if !isName(d.Name) || d.Regions < 0 || d.Regions > maxRegions {
		return false
	}
	if !d.Choice {
		return len(d.Parts) == 1 && mayBeFields(d.Parts[0])
	}
	for _, p := range d.Parts {
		if !isName(p.Name) || len(p.Names) > 0 {
			return false
		}
	}
	return true
}

// mayBeFields is whether a part may be a struct's, whatever its types are.
func mayBeFields(p api.Part) bool {
	for _, name := range p.Names {
		if !isName(name) {
			return false
		}
	}
	return p.Name == "" && len(p.Names) == len(p.Types)
}

// isName is whether data may be called so.
func isName(s string) bool {
	return kind.Right(api.Type{Kind: api.KData, Name: s})
}

// rightTypes is whether a declaration's types are right, and all in them is declared.
func (b book) rightTypes(d api.Data) bool {
	for t := range types(d) {
		if !kind.Right(t) {
			return false
		}
		if in := core(t); in.Kind == api.KData {
			if _, ok := b.of(in); !ok {
				return false
			}
		}
	}
	return true
}

// rightRegions is whether all regions of a declaration's types are its own, and each KData in them has as many as it is declared with.
func (b book) rightRegions(d api.Data) bool {
	for t := range types(d) {
		for _, r := range kind.Regions(t) {
			if r < 1 || r > d.Regions {
				return false
			}
		}
		in := core(t)
		if of, ok := b.of(in); ok && len(in.Regs) != of.Regions {
			return false
		}
	}
	return true
}
