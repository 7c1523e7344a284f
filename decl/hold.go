package decl

import (
	"math"

	"borrowdale/api"
)

// isOwner is whether a type is one that owns what is on the heap.
func isOwner(t api.Type) bool {
	return t.Kind == api.KBox || t.Kind == api.KVec
}

// holdsOwner is whether a type is an owner, or holds one in some field. Each declaration is gone through once, however often it is held.
func (b book) holdsOwner(t api.Type) bool {
	met := make([]bool, len(b.l))
	work := []api.Type{t}
	for len(work) > 0 {
		last := len(work) - 1
		t, work = work[last], work[:last]
		if isOwner(t) {
			return true
		}
		if t.Kind != api.KData {
			continue
		}
		i, ok := b.where(t.Name)
		if !ok || met[i] {
			continue
		}
		met[i] = true
		for field := range types(b.l[i]) {
			work = append(work, field)
		}
	}
	return false
}

// held is, of each declaration, those that its types are.
func (b book) held() [][]int {
	all := make([][]int, len(b.l))
	for i, d := range b.l {
		for t := range types(d) {
			if t.Kind != api.KData {
				continue
			}
			if j, ok := b.where(t.Name); ok {
				all[i] = append(all[i], j)
			}
		}
	}
	return all
}

// rings is which declarations hold themselves.
func (b book) rings() []bool {
	n := len(b.l)
	s := search{held: b.held(), low: make([]int, n), itself: make([]bool, n)}
	for i := range n {
		if s.low[i] == 0 {
			s.visit(i)
		}
	}
	return s.itself
}

// search looks for declarations that hold themselves, by Tarjan's way: those that hold each other lie together at the top of the open ones when the first of them that was met is left.
type search struct {
	held   [][]int
	met    int   // how many have been met
	low    []int // of each one that is met the number of the first open one that it is known to hold
	open   []int // those of which isn't known yet which others they lie with
	itself []bool
}

// closed is the number of what isn't open any more.
const closed = math.MaxInt

// visit goes through what a declaration holds.
func (s *search) visit(i int) {
	s.met++
	number, at := s.met, len(s.open)
	s.low[i] = number
	s.open = append(s.open, i)
	for _, j := range s.held[i] {
		if s.low[j] == 0 {
			s.visit(j)
		}
		s.low[i] = min(s.low[i], s.low[j])
		s.itself[i] = s.itself[i] || j == i
	}
	if s.low[i] < number {
		return
	}
	together := s.open[at:]
	for _, j := range together {
		s.low[j] = closed
		s.itself[j] = s.itself[j] || len(together) > 1
	}
	s.open = s.open[:at]
}
