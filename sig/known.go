package sig

import (
	"slices"

	"borrowdale/api"
)

// maxPairs is how many pairs of regions are told at most: more of them are more than any call may answer.
const maxPairs = 1 << 27

// web is the regions of which a signature says something, rising, and where each of them leads. A region is told by its place in the list, so that how many a signature has besides doesn't count. (Layer 18's Closure isn't asked: it goes up to 1000 numbers, and no sentence says that of a signature that isn't right.)
type web struct {
	regions []int
	next    [][]int
	met     []int // of each one the last from which it was reached, from 1 on
}

// webOf is that of a signature.
func webOf(s api.Sig) web {
	var w web
	var pairs []api.Outlives
	for _, p := range s.Where {
		if isRegion(p.A, s.Regions) && isRegion(p.B, s.Regions) {
			pairs = append(pairs, p)
			w.regions = append(w.regions, p.A, p.B)
		}
	}
	slices.Sort(w.regions)
	w.regions = slices.Compact(w.regions)
	w.next = make([][]int, len(w.regions))
	w.met = make([]int, len(w.regions))
	for _, p := range pairs {
		a, _ := slices.BinarySearch(w.regions, p.A)
		b, _ := slices.BinarySearch(w.regions, p.B)
		w.next[a] = append(w.next[a], b)
	}
	return w
}

// reached is all to which one leads, by one step or more, rising.
func (w web) reached(from int) []int {
	var all []int
	work := []int{from}
	for len(work) > 0 {
		last := len(work) - 1
		i := work[last]
		work = work[:last]
		for _, j := range w.next[i] {
			if w.met[j] != from+1 {
				w.met[j] = from + 1
				all = append(all, j)
				work = append(work, j)
			}
		}
	}
	slices.Sort(all)
	return all
}
