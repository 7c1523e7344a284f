package decl

import (
	"iter"
	"slices"

	"borrowdale/api"
	"borrowdale/kind"
)

// maxRegions is how many regions a declaration can have.
const maxRegions = 20

// lookup tells which declaration is the first one of a name.
type lookup func(name string) (int, bool)

// scanned looks for names one by one: as good as any where few are asked for.
func scanned(l []api.Data) lookup {
	return func(name string) (int, bool) {
		for i := range l {
			if l[i].Name == name {
				return i, true
			}
		}
		return 0, false
	}
}

// listed has all names in a list, for where many are asked for.
func listed(l []api.Data) lookup {
	numbers := map[string]int{}
	for i, d := range l {
		if _, ok := numbers[d.Name]; !ok {
			numbers[d.Name] = i
		}
	}
	return func(name string) (int, bool) {
		i, ok := numbers[name]
		return i, ok
	}
}

// book is declarations, and where the one of a name is.
type book struct {
	l     []api.Data
	where lookup
}

// of is the declaration of a type.
func (b book) of(t api.Type) (api.Data, bool) {
	if t.Kind != api.KData {
		return api.Data{}, false
	}
	i, ok := b.where(t.Name)
	if !ok {
		return api.Data{}, false
	}
	return b.l[i], true
}

// copied is whether values of a type are copied.
func (b book) copied(t api.Type) bool {
	switch t.Kind {
	case api.KInt, api.KBool, api.KUnit:
		return true
	case api.KRef:
		return !t.Unique
	}
	d, ok := b.of(t)
	return ok && d.Copy
}

// allCopied is whether values of all types of a declaration are copied.
func (b book) allCopied(d api.Data) bool {
	for t := range types(d) {
		if !b.copied(t) {
			return false
		}
	}
	return true
}

// types is all types of a declaration, part by part.
func types(d api.Data) iter.Seq[api.Type] {
	return func(yield func(api.Type) bool) {
		for _, p := range d.Parts {
			for _, t := range p.Types {
				if !yield(t) {
					return
				}
			}
		}
	}
}

// inside is a type, what it holds, and so on, each with whether it stands within what a unique reference points to. What isn't right may have no end, or hold several: it is left where it stops being a type.
func inside(t api.Type) iter.Seq2[api.Type, bool] {
	return func(yield func(api.Type, bool) bool) {
		within := false
		for range api.MaxDepth {
			if !yield(t, within) || len(t.Args) != 1 {
				return
			}
			within = within || t.Kind == api.KRef && t.Unique
			t = t.Args[0]
		}
	}
}

// core is the innermost of what a type holds: no other one can be a KData.
func core(t api.Type) api.Type {
	for t = range inside(t) {
	}
	return t
}

// anew is a declaration in new memory.
func anew(d api.Data) api.Data {
	var parts []api.Part
	for _, p := range d.Parts {
		var held []api.Type
		for _, t := range p.Types {
			held = append(held, kind.With(t, nil))
		}
		parts = append(parts, api.Part{Name: p.Name, Names: slices.Clone(p.Names), Types: held})
	}
	d.Parts = parts
	return d
}
