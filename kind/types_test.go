package kind_test

import (
	"fmt"
	"math/rand"
	"strings"

	"borrowdale/api"
)

var (
	aInt  = api.Type{Kind: api.KInt}
	aBool = api.Type{Kind: api.KBool}
	aUnit = api.Type{Kind: api.KUnit}
)

func box(t api.Type) api.Type { return api.Type{Kind: api.KBox, Args: []api.Type{t}} }

func vec(t api.Type) api.Type { return api.Type{Kind: api.KVec, Args: []api.Type{t}} }

func ref(r int, t api.Type) api.Type {
	return api.Type{Kind: api.KRef, Region: r, Args: []api.Type{t}}
}

func mut(r int, t api.Type) api.Type {
	return api.Type{Kind: api.KRef, Region: r, Unique: true, Args: []api.Type{t}}
}

func data(name string, regs ...int) api.Type {
	return api.Type{Kind: api.KData, Name: name, Regs: regs}
}

// within is a type within so many boxes.
func within(n int, t api.Type) api.Type {
	for range n {
		t = box(t)
	}
	return t
}

// made is a type made by chance, at most so deep, with its text, its regions and how deep it is, each told as the chapter does.
type made struct {
	t     api.Type
	text  string
	regs  []int
	depth int
}

// makeType makes one.
func makeType(r *rand.Rand, deep int) made {
	if deep > 1 && r.Intn(3) > 0 {
		in := makeType(r, deep-1)
		switch r.Intn(3) {
		case 0:
			return made{box(in.t), "Box[" + in.text + "]", in.regs, in.depth + 1}
		case 1:
			return made{vec(in.t), "Vec[" + in.text + "]", in.regs, in.depth + 1}
		}
		region := r.Intn(2) * r.Intn(api.MaxRegions+1)
		text := "&"
		if region != 0 {
			text += fmt.Sprintf("'%d ", region)
		}
		t := ref(region, in.t)
		if r.Intn(2) == 0 {
			text += "mut "
			t.Unique = true
		}
		return made{t, text + in.text, append([]int{region}, in.regs...), in.depth + 1}
	}
	switch r.Intn(6) {
	case 0:
		return made{aInt, "int", nil, 1}
	case 1:
		return made{aBool, "bool", nil, 1}
	case 2:
		return made{aUnit, "unit", nil, 1}
	}
	name := strings.Fields("A List Opt__4P__i Box Vec mut ints _ _0 Int boolean z9 " + strings.Repeat("n", 200))[r.Intn(12)]
	var regs []int
	var texts []string
	for range r.Intn(2) * r.Intn(21) {
		regs = append(regs, r.Intn(api.MaxRegions+1))
		texts = append(texts, fmt.Sprintf("'%d", regs[len(regs)-1]))
	}
	text := name
	if len(regs) > 0 {
		text += "<" + strings.Join(texts, ", ") + ">"
	}
	return made{data(name, regs...), text, regs, 1}
}

// rows is types of each kind, and within each other.
func rows() []made {
	list := data("List", 1, 2)
	return []made{
		{aInt, "int", nil, 1},
		{aBool, "bool", nil, 1},
		{aUnit, "unit", nil, 1},
		{ref(0, aInt), "&int", []int{0}, 2},
		{ref(7, aInt), "&'7 int", []int{7}, 2},
		{mut(0, aInt), "&mut int", []int{0}, 2},
		{mut(500, aInt), "&'500 mut int", []int{500}, 2},
		{box(aBool), "Box[bool]", nil, 2},
		{vec(aUnit), "Vec[unit]", nil, 2},
		{vec(box(vec(aInt))), "Vec[Box[Vec[int]]]", nil, 4},
		{data("P"), "P", nil, 1},
		{data("P", 0), "P<'0>", []int{0}, 1},
		{list, "List<'1, '2>", []int{1, 2}, 1},
		{mut(3, box(list)), "&'3 mut Box[List<'1, '2>]", []int{3, 1, 2}, 3},
		{ref(1, mut(2, ref(0, mut(0, data("L", 4, 4))))), "&'1 &'2 mut &&mut L<'4, '4>", []int{1, 2, 0, 0, 4, 4}, 5},
		{ref(0, data("mut")), "&mut", []int{0}, 2},
		{mut(0, data("mut", 3)), "&mut mut<'3>", []int{0, 3}, 2},
		{ref(9, data("Box")), "&'9 Box", []int{9}, 2},
		{box(data("Vec", 1)), "Box[Vec<'1>]", []int{1}, 2},
		{data("_"), "_", nil, 1},
		{data("Int"), "Int", nil, 1},
		{data("ints", 12, 345), "ints<'12, '345>", []int{12, 345}, 1},
		{within(api.MaxDepth-1, aInt), strings.Repeat("Box[", 59) + "int" + strings.Repeat("]", 59), nil, 60},
	}
}

// stock is these, and some made by chance.
func stock() []made {
	l := rows()
	r := rand.New(rand.NewSource(7))
	for range 3000 {
		l = append(l, makeType(r, 1+r.Intn(8)))
	}
	for range 50 {
		l = append(l, makeType(r, api.MaxDepth))
	}
	return l
}

// odd is types that are not right, with their regions and how deep they are.
func odd() []made {
	full := api.Type{Kind: api.KRef, Name: "n", Region: 5, Unique: true, Regs: []int{6, -7}, Args: []api.Type{ref(8, aInt), data("P", 9)}}
	other := full
	other.Kind = api.KBox
	none := full
	none.Kind = 99
	return []made{
		{t: full, regs: []int{5, 6, -7, 8, 9}, depth: 3},
		{t: other, regs: []int{6, -7, 8, 9}, depth: 3},
		{t: none, regs: []int{6, -7, 8, 9}, depth: 3},
		{t: api.Type{}, depth: 1},
		{t: api.Type{Kind: api.KRef, Region: -1}, regs: []int{-1}, depth: 1},
		{t: api.Type{Kind: api.KData, Regs: []int{501}, Args: []api.Type{box(ref(600, aInt))}}, regs: []int{501, 600}, depth: 4},
		{t: within(80, ref(3, aInt)), regs: []int{3}, depth: 82},
	}
}
