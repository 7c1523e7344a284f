package decl

import "borrowdale/api"

// spot is a region of a declaration, from 1 on.
type spot struct{ data, region int }

// varying is which regions have variance 2.
type varying struct {
	two   map[spot]bool
	leads map[spot][]spot // those that have it, if this one has
	work  []spot          // those that have it, and whose leads haven't been followed
}

// variance is that of a region.
func (v *varying) variance(s spot) int {
	if v.two[s] {
		return 2
	}
	return 1
}

// varying is the least that is so for all declarations together.
func (b book) varying() *varying {
	v := &varying{two: map[spot]bool{}, leads: map[spot][]spot{}}
	for i, d := range b.l {
		for t := range types(d) {
			b.look(v, i, t)
		}
	}
	for len(v.work) > 0 {
		last := len(v.work) - 1
		s := v.work[last]
		v.work = v.work[:last]
		for _, next := range v.leads[s] {
			v.mark(next)
		}
	}
	return v
}

// mark tells that a region has variance 2.
func (v *varying) mark(s spot) {
	if !v.two[s] {
		v.two[s] = true
		v.work = append(v.work, s)
	}
}

// look tells what a type of a declaration says of that one's regions.
func (b book) look(v *varying, i int, t api.Type) {
	for in, within := range inside(t) {
		if within && in.Kind == api.KRef {
			v.mark(spot{data: i, region: in.Region})
		}
		for k, r := range in.Regs {
			own := spot{data: i, region: r}
			if within {
				v.mark(own)
			}
			if j, ok := b.where(in.Name); ok {
				at := spot{data: j, region: k + 1}
				v.leads[at] = append(v.leads[at], own)
			}
		}
	}
}
