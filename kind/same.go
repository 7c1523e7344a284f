package kind

import (
	"slices"

	"borrowdale/api"
)

// lists is two lists of types.
type lists struct{ a, b list }

// comparison is two types held against each other. It keeps which lists of more than one it has met, so that what stands in a type in very many ways is gone through once: lists met again are alike, or the two aren't anyway.
type comparison struct {
	met map[lists]bool
}

// same is whether two that lie so deep are alike.
func (c *comparison) same(a, b api.Type, deep int) bool {
	if a.Kind != b.Kind || a.Name != b.Name || a.Region != b.Region || a.Unique != b.Unique {
		return false
	}
	return deep <= maxLevels && slices.Equal(a.Regs, b.Regs) && c.sameLists(a.Args, b.Args, deep+1)
}

// sameLists is whether two lists of types that lie so deep are alike.
func (c *comparison) sameLists(a, b []api.Type, deep int) bool {
	if len(a) != len(b) {
		return false
	}
	if len(a) > 1 && c.again(a, b) {
		return true
	}
	for i := range a {
		if !c.same(a[i], b[i], deep) {
			return false
		}
	}
	return true
}

// again is whether two lists have been met; from now on they have.
func (c *comparison) again(a, b []api.Type) bool {
	l := lists{a: list{first: &a[0], n: len(a)}, b: list{first: &b[0], n: len(b)}}
	if c.met[l] {
		return true
	}
	if c.met == nil {
		c.met = map[lists]bool{}
	}
	c.met[l] = true
	return false
}
