package sig_test

import (
	"math"
	"math/rand"
	"slices"
	"testing"

	"borrowdale/api"
	"borrowdale/sig"
)

// P9.3: what follows of what a signature says.
func TestKnown(t *testing.T) {
	for _, c := range []struct {
		regions     int
		where, want []int
	}{
		{3, []int{1, 2, 2, 3}, []int{1, 2, 1, 3, 2, 3}}, // the example
		{0, nil, nil}, {5, nil, nil}, {1, []int{1, 1}, nil}, {2, []int{1, 1, 2, 2}, nil},
		{2, []int{2, 1}, []int{2, 1}}, {2, []int{1, 2, 2, 1}, []int{1, 2, 2, 1}}, {2, []int{1, 2, 1, 2, 1, 2}, []int{1, 2}},
		{3, []int{2, 3, 1, 2}, []int{1, 2, 1, 3, 2, 3}}, {3, []int{3, 2, 2, 1}, []int{2, 1, 3, 1, 3, 2}},
		{3, []int{1, 2, 2, 3, 3, 1}, []int{1, 2, 1, 3, 2, 1, 2, 3, 3, 1, 3, 2}},
		{4, []int{1, 2, 2, 1, 2, 2, 1, 4, 3, 1}, []int{1, 2, 1, 4, 2, 1, 2, 4, 3, 1, 3, 2, 3, 4}},
		{4, []int{1, 2, 3, 4}, []int{1, 2, 3, 4}}, {4, []int{4, 1, 4, 3, 4, 2}, []int{4, 1, 4, 2, 4, 3}},
		{2, []int{1, 3, 3, 2}, nil}, {3, []int{1, 0, 0, 2, 3, 1}, []int{3, 1}}, {3, []int{1, -5, -5, 2, 2, 4, 4, 3}, nil}, {2, []int{0, 0, 3, 3, 1, 2}, []int{1, 2}},
		{2, []int{math.MaxInt, 1, 1, math.MinInt, 2, 1}, []int{2, 1}}, {0, []int{1, 2}, nil}, {-1, []int{1, 2, -1, 0}, nil}, {math.MinInt, []int{1, 2, -1, 0}, nil}, {1, []int{1, 2}, nil},
		{500, []int{500, 1, 1, 499}, []int{1, 499, 500, 1, 500, 499}},
		{math.MaxInt, []int{math.MaxInt, 1 << 40, 1 << 40, 3, 0, 3}, []int{1 << 40, 3, math.MaxInt, 3, math.MaxInt, 1 << 40}},
	} {
		s := api.Sig{Name: "f", Regions: c.regions, Where: pairs(c.where...)}
		before := clone(s)[0]
		got := sig.Known(s)
		if !slices.Equal(got, pairs(c.want...)) || !slices.Equal(modelKnown(s), pairs(c.want...)) {
			t.Errorf("%d, %v: %v", c.regions, c.where, got)
		}
		for i := range got {
			got[i] = api.Outlives{A: -99, B: -99}
		}
		if !same(s, before) {
			t.Errorf("%d, %v is written into", c.regions, c.where)
		}
	}
}

// P9.3: 500 regions and 100 Where: a chain, a ring, and by chance; then more than any signature that is right has.
func TestKnownMany(t *testing.T) {
	chain := func(count int) api.Sig {
		s := api.Sig{Regions: count}
		for i := 1; i < count; i++ {
			s.Where = append(s.Where, api.Outlives{A: i + 1, B: i})
		}
		return s
	}
	all := func(count int, falls bool) []api.Outlives {
		var l []api.Outlives
		for a := 1; a <= count; a++ {
			for b := 1; b <= count; b++ {
				if b < a || b > a && !falls {
					l = append(l, api.Outlives{A: a, B: b})
				}
			}
		}
		return l
	}
	for _, count := range []int{2, 101, 500, 1500} {
		s := chain(count)
		if !slices.Equal(sig.Known(s), all(count, true)) {
			t.Errorf("a chain of %d", count)
		}
		s.Where = append(s.Where, api.Outlives{A: 1, B: count})
		if !slices.Equal(sig.Known(s), all(count, false)) {
			t.Errorf("a ring of %d", count)
		}
	}
	apart := api.Sig{Regions: 1 << 20}
	for i := range 100000 {
		apart.Where = append(apart.Where, api.Outlives{A: 2*i + 1, B: 2*i + 2})
	}
	if !slices.Equal(sig.Known(apart), apart.Where) {
		t.Error("100000 pairs apart")
	}
	r := rand.New(rand.NewSource(1))
	for i := range 2000 {
		s := api.Sig{Regions: []int{3, 6, 20, 500}[i%4]}
		for range r.Intn([]int{5, 12, 40, 101}[i%4]) {
			s.Where = append(s.Where, api.Outlives{A: r.Intn(s.Regions+3) - 1, B: r.Intn(s.Regions+3) - 1})
		}
		if got, want := sig.Known(s), modelKnown(s); !slices.Equal(got, want) {
			t.Fatalf("%v: %v, not %v", s, got, want)
		}
	}
}
