package sig_test

import (
	"fmt"
	"regexp"
	"slices"
	"strings"

	"borrowdale/api"
	"borrowdale/decl"
	"borrowdale/kind"
	"borrowdale/sample"
)

// The chapter, written out plainly, however long that takes.

var aWord = regexp.MustCompile(`^[A-Za-z_][A-Za-z0-9_]{0,199}$`)

// modelMay is whether a type may stand in a signature with so many regions.
func modelMay(t api.Type, regions int, l []api.Data) bool {
	if !kind.Right(t) {
		return false
	}
	for _, r := range kind.Regions(t) {
		if r < 1 || r > regions {
			return false
		}
	}
	var declared func(t api.Type) bool
	declared = func(t api.Type) bool {
		if t.Kind == api.KData {
			i := slices.IndexFunc(l, func(d api.Data) bool { return d.Name == t.Name })
			return i >= 0 && l[i].Regions == len(t.Regs)
		}
		return len(t.Args) == 0 || declared(t.Args[0])
	}
	return declared(t)
}

// modelRight is whether a signature may be.
func modelRight(s api.Sig, l []api.Data) bool {
	if !aWord.MatchString(s.Name) || s.Regions < 0 || s.Regions > 500 || len(s.Params) > 20 || len(s.Where) > 100 {
		return false
	}
	for _, t := range append(slices.Clone(s.Params), s.Result) {
		if !modelMay(t, s.Regions, l) {
			return false
		}
	}
	for _, w := range s.Where {
		if w.A < 1 || w.A > s.Regions || w.B < 1 || w.B > s.Regions {
			return false
		}
	}
	return true
}

// modelKnown is what follows of what a signature says, by adding one pair after another.
func modelKnown(s api.Sig) []api.Outlives {
	has := map[api.Outlives]bool{}
	for _, w := range s.Where {
		if w.A >= 1 && w.A <= s.Regions && w.B >= 1 && w.B <= s.Regions {
			has[w] = true
		}
	}
	for more := true; more; {
		more = false
		for _, p := range pairsOf(has) {
			for _, q := range pairsOf(has) {
				if both := (api.Outlives{A: p.A, B: q.B}); p.B == q.A && !has[both] {
					has[both] = true
					more = true
				}
			}
		}
	}
	return slices.DeleteFunc(pairsOf(has), func(p api.Outlives) bool { return p.A == p.B })
}

// pairsOf is pairs in a list, rising by A, then by B.
func pairsOf(has map[api.Outlives]bool) []api.Outlives {
	var l []api.Outlives
	for p := range has {
		l = append(l, p)
	}
	slices.SortFunc(l, func(p, q api.Outlives) int {
		if p.A != q.A {
			return p.A - q.A
		}
		return p.B - q.B
	})
	return l
}

// modelOther is a type with others for its regions.
func modelOther(t api.Type, other func(int) int) api.Type {
	if t.Kind == api.KRef {
		t.Region = other(t.Region)
	}
	t = sample.CloneType(t)
	for i, r := range t.Regs {
		t.Regs[i] = other(r)
	}
	for i, a := range t.Args {
		t.Args[i] = modelOther(a, other)
	}
	return t
}

// modelInstance is a signature with others for its regions, which are as many.
func modelInstance(s api.Sig, regs []int) api.Sig {
	other := func(r int) int {
		if r >= 1 && r <= s.Regions {
			return regs[r-1]
		}
		return r
	}
	s = clone(s)[0]
	for i, t := range s.Params {
		s.Params[i] = modelOther(t, other)
	}
	s.Result = modelOther(s.Result, other)
	for i, w := range s.Where {
		s.Where[i] = api.Outlives{A: other(w.A), B: other(w.B)}
	}
	return s
}

// modelText is a signature's text.
func modelText(s api.Sig) string {
	var regions, params, where []string
	for r := 1; r <= s.Regions; r++ {
		regions = append(regions, fmt.Sprintf("'%d", r))
	}
	for _, t := range s.Params {
		params = append(params, kind.Text(t))
	}
	for _, w := range s.Where {
		where = append(where, fmt.Sprintf("'%d: '%d", w.A, w.B))
	}
	text := "fn " + s.Name
	if len(regions) > 0 {
		text += "<" + strings.Join(regions, ", ") + ">"
	}
	text += "(" + strings.Join(params, ", ") + ") -> " + kind.Text(s.Result)
	if len(where) > 0 {
		text += " where " + strings.Join(where, ", ")
	}
	return text
}

// modelTwice is whether something of a list is there twice.
func modelTwice(l []string) bool {
	for i := range l {
		if slices.Contains(l[:i], l[i]) {
			return true
		}
	}
	return false
}

// modelTexts is the texts of a node's Kids.
func modelTexts(n api.Node) []string {
	var l []string
	for _, kid := range n.Kids {
		l = append(l, kid.Text)
	}
	return l
}

// modelCollect is the signatures of a program's functions, and the first fault.
func modelCollect(n api.Node, l []api.Data) ([]api.Sig, api.Fault) {
	var sigs []api.Sig
	names := strings.Fields("at at_mut box len pop print push replace swap unbox vec")
	for _, item := range n.Kids {
		if item.Kind != api.Fn || len(item.Kids[0].Kids) > 0 {
			continue
		}
		s, f := modelFunction(item, l, names)
		if f.Kind != api.OK {
			return nil, f
		}
		names = append(names, s.Name)
		sigs = append(sigs, s)
	}
	return sigs, api.Fault{}
}

// modelFunction is the signature of a function, behind others of these names.
func modelFunction(n api.Node, l []api.Data, names []string) (api.Sig, api.Fault) {
	regions, args, result, wheres := modelTexts(n.Kids[1]), n.Kids[2], n.Kids[3], n.Kids[4]
	s := api.Sig{Name: n.Text}
	if slices.Contains(names, n.Text) || modelTwice(regions) || modelTwice(modelTexts(args)) {
		return s, api.Fault{Kind: api.ErrTwice, At: n.At}
	}
	if len(regions) > 20 || len(args.Kids) > 20 || len(wheres.Kids) > 100 || len(n.Text) > 200 {
		return s, api.Fault{Kind: api.ErrMany, At: n.At}
	}
	next := 1 + len(regions)
	stand := map[int]bool{}
	for _, arg := range args.Kids {
		t, after, f := decl.Type(l, arg.Kids[0], regions, next)
		if f.Kind != api.OK {
			return s, f
		}
		for _, r := range kind.Regions(t) {
			stand[r] = true
		}
		s.Params = append(s.Params, t)
		next = after
	}
	s.Regions = next - 1
	s.Result = api.Type{Kind: api.KUnit}
	if result.Kind != api.None {
		t, after, f := decl.Type(l, result, regions, next)
		if f.Kind == api.OK && after > next && len(stand) != 1 {
			f = api.Fault{Kind: api.ErrElide, At: result.At}
		}
		if f.Kind != api.OK {
			return s, f
		}
		s.Result = modelOther(t, func(r int) int {
			for only := range stand {
				if r >= next {
					return only
				}
			}
			return r
		})
	}
	for _, w := range wheres.Kids {
		a, b := slices.Index(regions, w.Text), slices.Index(regions, w.Kids[0].Text)
		if a < 0 || b < 0 {
			return s, api.Fault{Kind: api.ErrRegion, At: w.At}
		}
		s.Where = append(s.Where, api.Outlives{A: a + 1, B: b + 1})
	}
	plain := s.Result.Kind == api.KInt || s.Result.Kind == api.KBool || s.Result.Kind == api.KUnit
	if s.Name == "main" && (len(s.Params) > 0 || s.Regions > 0 || !plain) {
		return s, api.Fault{Kind: api.ErrFn, At: n.At}
	}
	return s, api.Fault{}
}
