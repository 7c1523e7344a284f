package sig_test

import (
	"reflect"

	"borrowdale/api"
	"borrowdale/sample"
)

// pairs is what two and two numbers say.
func pairs(l ...int) []api.Outlives {
	var all []api.Outlives
	for i := 0; i+1 < len(l); i += 2 {
		all = append(all, api.Outlives{A: l[i], B: l[i+1]})
	}
	return all
}

// of is a signature.
func of(name string, regions int, params, result string, where ...int) api.Sig {
	return api.Sig{Name: name, Regions: regions, Params: sample.Types(params), Result: sample.Type(result), Where: pairs(where...)}
}

// shared is a source of declarations without a region, with one, with two, with twenty.
const shared = "struct S { a: int } struct R<'a> { a: &'a int } choice Q<'a, 'b> { N, C(&'a mut &'b int) } struct W<'a, 'b, 'c, 'd, 'e, 'f, 'g, 'h, 'i, 'j, 'k, 'l, 'm, 'n, 'o, 'p, 'q, 'r, 's, 't> {} "

// clone is signatures in new memory, without empty lists.
func clone(l ...api.Sig) []api.Sig {
	var all []api.Sig
	for _, s := range l {
		s.Params, s.Result = sample.CloneTypes(s.Params), sample.CloneType(s.Result)
		s.Where = append([]api.Outlives(nil), s.Where...)
		all = append(all, s)
	}
	return all
}

// alike is whether two lists of signatures are the same.
func alike(a, b []api.Sig) bool { return reflect.DeepEqual(clone(a...), clone(b...)) }

// same is whether two signatures are.
func same(a, b api.Sig) bool { return alike([]api.Sig{a}, []api.Sig{b}) }

// spoil writes into all that signatures hold.
func spoil(l []api.Sig) {
	for i := range l {
		l[i].Name = "spoilt"
		sample.SpoilType(&l[i].Result)
		for j := range l[i].Params {
			sample.SpoilType(&l[i].Params[j])
		}
		for j := range l[i].Where {
			l[i].Where[j] = api.Outlives{A: -99, B: -99}
		}
	}
}
