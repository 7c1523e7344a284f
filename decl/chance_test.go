package decl_test

import (
	"math/rand"
	"slices"
	"strconv"
	"strings"
	"testing"

	"borrowdale/api"
	"borrowdale/decl"
	"borrowdale/kind"
	"borrowdale/sample"
	"borrowdale/tree"
)

// chance makes declarations, and trees of types.
type chance struct {
	*rand.Rand
	names   []string
	regions map[string]int // of each name
	odd     int            // one of so many things is made wrong; 0: none
}

// slip is whether something is made wrong now.
func (c *chance) slip() bool { return c.odd > 0 && c.Intn(c.odd) == 0 }

// region is a region of a declaration with so many.
func (c *chance) region(count int) int {
	if count < 1 || c.slip() {
		return c.Intn(max(count, 0) + 3)
	}
	return 1 + c.Intn(count)
}

// aType is a type within a declaration with so many regions, at most so deep.
func (c *chance) aType(count, deep int) api.Type {
	if c.slip() {
		return []api.Type{{}, {Kind: 8}, {Kind: api.KData}, {Kind: api.KBox}, {Kind: api.KInt, Name: "a"}, sample.Type("Q"), sample.Type("Q<'1>")}[c.Intn(7)]
	}
	if deep > 1 && c.Intn(2) == 0 {
		in := []api.Type{c.aType(count, deep-1)}
		if k := c.Intn(4); k < 2 && count > 0 {
			return api.Type{Kind: api.KRef, Region: c.region(count), Unique: k == 1, Args: in}
		}
		return api.Type{Kind: []int{api.KBox, api.KVec}[c.Intn(2)], Args: in}
	}
	name := c.names[c.Intn(len(c.names))]
	want := c.regions[name]
	if c.Intn(3) == 0 || want > 0 && count < 1 {
		return api.Type{Kind: []int{api.KInt, api.KBool, api.KUnit}[c.Intn(3)]}
	}
	if c.slip() {
		want = c.Intn(4)
	}
	t := api.Type{Kind: api.KData, Name: name}
	for range want {
		t.Regs = append(t.Regs, c.region(count))
	}
	return t
}

// part is a part of a declaration.
func (c *chance) part(d api.Data, i int) api.Part {
	p := api.Part{}
	if d.Choice != c.slip() {
		p.Name = "C" + strconv.Itoa(i-boolean(c.slip()))
	}
	for range c.Intn(4) {
		p.Types = append(p.Types, c.aType(d.Regions, 3))
	}
	for j := range p.Types {
		if d.Choice == c.slip() {
			p.Names = append(p.Names, "f"+strconv.Itoa(j-boolean(c.slip())))
		}
	}
	return p
}

// boolean is 1 for true.
func boolean(b bool) int {
	if b {
		return 1
	}
	return 0
}

// list is some declarations.
func (c *chance) list() []api.Data {
	c.names, c.regions = nil, map[string]int{}
	for _, s := range strings.Fields("A B C D E F")[:1+c.Intn(6)] {
		c.names = append(c.names, s)
		c.regions[s] = c.Intn(2) * c.Intn(4)
	}
	var l []api.Data
	for _, name := range c.names {
		d := api.Data{Name: name, Choice: c.Intn(2) == 0, Regions: c.regions[name], Copy: c.Intn(3) == 0}
		if c.slip() {
			d.Name = []string{"A", "B", "", "int"}[c.Intn(4)]
		}
		if c.slip() {
			d.Regions = []int{-1, 21, 2}[c.Intn(3)]
		}
		count := 1
		if d.Choice != c.slip() {
			count = c.Intn(4)
		}
		for i := range count {
			d.Parts = append(d.Parts, c.part(d, i))
		}
		if c.Intn(3) > 0 {
			d.Copy = d.Copy && !slices.ContainsFunc(modelTypes(d), func(t api.Type) bool { return !modelCopy(nil, t) })
		}
		l = append(l, d)
	}
	return placed(l...)
}

// P8.1, P8.2: declarations made by chance, against the chapter written out plainly.
func TestChance(t *testing.T) {
	c := &chance{Rand: rand.New(rand.NewSource(8))}
	seen := map[api.Errno]int{}
	twos := 0
	for i := range 40000 {
		c.odd = []int{0, 0, 0, 200, 20}[i%5]
		l := c.list()
		before := clone(l)
		want := modelRight(l)
		seen[want.Kind]++
		if got := decl.Right(l); got != want {
			t.Fatalf("%v, not %v:\n%v", got, want, l)
		}
		if want.Kind == api.OK {
			twos += c.checkRight(t, l)
		}
		if !alike(l, before) {
			t.Fatalf("written into:\n%v", before)
		}
	}
	for _, e := range []api.Errno{api.OK, api.ErrTwice, api.ErrType, api.ErrRegion, api.ErrSize, api.ErrCopy} {
		if seen[e] < 200 {
			t.Errorf("only %d of error %d", seen[e], e)
		}
	}
	if twos < 1000 {
		t.Errorf("only %d regions of variance 2", twos)
	}
}

// checkRight asks everything of right declarations; it tells how many regions have variance 2.
func (c *chance) checkRight(t *testing.T, l []api.Data) int {
	twos := 0
	variances := modelVariance(l)
	for _, d := range l {
		got := decl.Variance(l, d.Name)
		if !slices.Equal(got, variances[d.Name]) {
			t.Fatalf("%s has %v, not %v:\n%v", d.Name, got, variances[d.Name], l)
		}
		for _, v := range got {
			twos += v - 1
		}
		types := append(modelTypes(d), c.aType(d.Regions, 4))
		x := api.Type{Kind: api.KData, Name: d.Name}
		for range d.Regions {
			x.Regs = append(x.Regs, c.Intn(501))
		}
		for part := range d.Parts {
			fields, ok := decl.Part(l, x, part)
			if want := modelFields(d, x, part); !ok || !sample.SameTypes(fields, want) {
				t.Fatalf("%s %d has %v, not %v", d.Name, part, fields, want)
			}
			types = append(types, fields...)
		}
		for _, x := range append(types, x) {
			copied, drops := decl.Copy(l, x), decl.Drops(l, x)
			if copied != modelCopy(l, x) || drops != modelDrops(l, x) || copied && drops {
				t.Fatalf("%s: copied %v, needs a drop %v:\n%v", kind.Text(x), copied, drops, l)
			}
		}
	}
	return twos
}

// modelFields is a part's types for a type of the declaration.
func modelFields(d api.Data, x api.Type, part int) []api.Type {
	l := sample.CloneTypes(d.Parts[part].Types)
	var put func(t *api.Type)
	put = func(t *api.Type) {
		if t.Kind == api.KRef {
			t.Region = x.Regs[t.Region-1]
		}
		for i, r := range t.Regs {
			t.Regs[i] = x.Regs[r-1]
		}
		for i := range t.Args {
			put(&t.Args[i])
		}
	}
	for i := range l {
		put(&l[i])
	}
	return l
}

// tree is a type's tree, at most so deep.
func (c *chance) tree(deep int) api.Node {
	regions := []string{"", "", "'a", "'b", "'c", "'z"}
	if deep > 1 && c.Intn(4) > 0 {
		in := c.tree(deep - 1)
		switch c.Intn(3) {
		case 0:
			return of(api.TBox, "", 0, in)
		case 1:
			return of(api.TVec, "", 0, in)
		}
		return of(api.TRef, regions[c.Intn(5)+boolean(c.slip())*c.Intn(2)], int64(c.Intn(2)), in)
	}
	if c.Intn(3) == 0 {
		return of([]int{api.TInt, api.TBool, api.TUnit}[c.Intn(3)], "", 0)
	}
	i := c.Intn(4)
	var told []string
	for range []int{0, 1, 2, 20}[i] + boolean(c.slip()) {
		told = append(told, regions[2+c.Intn(3)+boolean(c.slip())])
	}
	if c.Intn(2) == 0 {
		told = nil
	}
	n := of(api.TName, []string{"E", "L", "T", "M"}[i], 0, names(told...))
	if c.slip() {
		n.Text = "U"
	}
	if c.slip() {
		n.Kids = append(n.Kids, c.tree(deep))
	}
	return n
}

// P8.1: types' trees made by chance, against the chapter written out plainly.
func TestTypeChance(t *testing.T) {
	c := &chance{Rand: rand.New(rand.NewSource(9))}
	seen := map[api.Errno]int{}
	regions := []string{"'c", "'a", "'b", "'a"}
	for i := range 40000 {
		c.odd = []int{0, 12, 4}[i%3]
		n := numbered(c.tree(1+c.Intn(8)), c.Intn(50))
		if !tree.Fits(n, tree.Type) {
			t.Fatalf("no tree of a type: %v", n)
		}
		fresh := []int{1, 1, 1, 4, 0, -1, 480, 490, 498, 499, 500, 501, 502}[c.Intn(13)]
		want, after, fault := modelType(named(), n, regions, fresh)
		got, next, f := decl.Type(named(), n, regions, fresh)
		seen[fault.Kind]++
		if f != fault || next != after || !sameType(got, want) {
			t.Fatalf("%v, from %d on: %v, %d, %v, not %v, %d, %v", n, fresh, got, next, f, want, after, fault)
		}
		if f.Kind == api.OK && !kind.Right(got) {
			t.Fatalf("%v isn't right", got)
		}
	}
	if seen[api.OK] < 5000 || seen[api.ErrType] < 2000 || seen[api.ErrRegion] < 2000 {
		t.Error(seen)
	}
}

// source is declarations as a source, and where each one begins.
func source(l []api.Data) (string, []int) {
	s := ""
	var places []int
	typeText := func(t api.Type) string { return strings.ReplaceAll(kind.Text(t), "'", "'r") }
	for _, d := range l {
		s += " "
		places = append(places, len(s))
		if d.Copy {
			s += "copy "
		}
		regions := ""
		for r := range d.Regions {
			regions += ", 'r" + strconv.Itoa(r+1)
		}
		if regions != "" {
			regions = "<" + regions[2:] + ">"
		}
		if !d.Choice {
			s += "struct " + d.Name + regions + " {"
			for i, t := range d.Parts[0].Types {
				s += d.Parts[0].Names[i] + ": " + typeText(t) + ", "
			}
			s += "}"
			continue
		}
		s += "choice " + d.Name + regions + " {"
		for _, p := range d.Parts {
			s += p.Name + "("
			for _, t := range p.Types {
				s += typeText(t) + ", "
			}
			s += "), "
		}
		s += "}"
	}
	return s, places
}

// P8.1, P8.2: declarations made by chance, written as sources, are collected as they were, or with the fault that they have.
func TestCollectChance(t *testing.T) {
	c := &chance{Rand: rand.New(rand.NewSource(10))}
	seen := map[api.Errno]int{}
	for range 5000 {
		l := c.list()
		s, places := source(l)
		for i, at := range places {
			l[i].At = at
		}
		want := modelRight(l)
		seen[want.Kind]++
		got, f := decl.Collect(sample.Program(s))
		if f != want || f.Kind == api.OK && !alike(got, l) || f.Kind != api.OK && len(got) > 0 {
			t.Fatalf("%s\n%v, not %v\n%v\n%v", s, f, want, got, l)
		}
		if decl.Right(got) != (api.Fault{}) {
			t.Fatalf("%s\nwhat is collected isn't right", s)
		}
	}
	if seen[api.OK] < 500 || seen[api.ErrSize] < 200 || seen[api.ErrCopy] < 200 {
		t.Error(seen)
	}
}

// Beyond what is promised there is an end: of declarations that aren't right.
func TestEnd(t *testing.T) {
	ring := []api.Type{{Kind: api.KBox}}
	ring[0].Args = ring
	pair := []api.Type{{Kind: api.KRef, Unique: true}, {Kind: api.KData, Name: "A", Regs: []int{1 << 62, -5}}}
	pair[0].Args = pair
	huge := []api.Data{
		{Name: "A", Regions: 1 << 62, Parts: []api.Part{{Types: ring}}},
		{Name: "B", Regions: -1 << 63, Parts: []api.Part{{Types: pair}, {Types: pair}}},
		{Name: "C", Choice: true, Copy: true, Parts: []api.Part{{Name: "A", Types: []api.Type{{Kind: api.KData, Name: "C"}, {Kind: api.KRef, Region: -1, Unique: true, Args: []api.Type{{Kind: api.KRef, Region: 1 << 62}}}}}}},
		{}, {}, {Name: "A"},
	}
	if decl.Right(huge) == (api.Fault{}) {
		t.Error("it is right")
	}
	for i := range huge {
		decl.Right(huge[i:])
		decl.Right(huge[i : i+1])
		for _, name := range []string{"A", "B", "C", "", "Z"} {
			decl.Find(huge[i:], name)
			decl.Variance(huge[i:], name)
			for _, x := range []api.Type{{Kind: api.KData, Name: name}, {Kind: api.KData, Name: name, Regs: make([]int, 30)}, ring[0], pair[0], {}} {
				decl.Copy(huge[i:], x)
				decl.Drops(huge[i:], x)
				for _, part := range []int{-1 << 63, -1, 0, 1, 2, 1 << 62} {
					decl.Part(huge[i:], x, part)
				}
			}
		}
	}
}
