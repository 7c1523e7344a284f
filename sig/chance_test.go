package sig_test

import (
	"math/rand"
	"regexp"
	"slices"
	"strings"
	"testing"

	"borrowdale/api"
	"borrowdale/parse"
	"borrowdale/sample"
	"borrowdale/sig"
)

// chance makes signatures, and sources of functions.
type chance struct {
	*rand.Rand
	odd  int  // one of so many things is made wrong; 0: none
	told bool // no region of a type is left out, if there is one
}

// slip is whether something is made wrong now.
func (c *chance) slip() bool { return c.odd > 0 && c.Intn(c.odd) == 0 }

// one is one of the words of a text.
func (c *chance) one(words string) string {
	l := strings.Fields(words)
	return l[c.Intn(len(l))]
}

// region is one of so many regions.
func (c *chance) region(regions int) int {
	if c.slip() {
		return []int{0, -1, regions + 1, 501}[c.Intn(4)]
	}
	return 1 + c.Intn(max(regions, 1))
}

// aType is a type with so many regions to choose from, at most so deep.
func (c *chance) aType(regions, deep int) api.Type {
	if deep > 1 && c.Intn(3) > 0 {
		in := []api.Type{c.aType(regions, deep-1)}
		if regions > 0 && c.Intn(2) == 0 {
			return api.Type{Kind: api.KRef, Region: c.region(regions), Unique: c.Intn(2) == 0, Args: in}
		}
		return api.Type{Kind: []int{api.KBox, api.KVec}[c.Intn(2)], Args: in}
	}
	if c.Intn(2) == 0 {
		return api.Type{Kind: []int{api.KInt, api.KBool, api.KUnit}[c.Intn(3)]}
	}
	i := c.Intn(4)
	if regions == 0 {
		i = 0
	}
	t := api.Type{Kind: api.KData, Name: []string{"S", "R", "Q", "W"}[i]}
	for range []int{0, 1, 2, 20}[i] + boolean(c.slip()) {
		t.Regs = append(t.Regs, c.region(regions))
	}
	if c.slip() {
		t.Name = c.one("T s R Q")
	}
	return t
}

// boolean is 1 for yes.
func boolean(yes bool) int {
	if yes {
		return 1
	}
	return 0
}

// signature is a signature.
func (c *chance) signature() api.Sig {
	regions := []int{0, 1, 2, 5, 20, 500}[c.Intn(6)]
	s := api.Sig{Name: c.one("f g main at int"), Regions: regions, Result: c.aType(regions, 1+c.Intn(4))}
	for range c.Intn(4) * (1 + 5*c.Intn(2)) {
		s.Params = append(s.Params, c.aType(regions, 1+c.Intn(4)))
	}
	for range c.Intn(5) * min(regions, 1) {
		s.Where = append(s.Where, api.Outlives{A: c.region(regions), B: c.region(regions)})
	}
	return s
}

// P9.1, P9.3, P9.4, P9.5: signatures made by chance, against the chapter written out plainly.
func TestChance(t *testing.T) {
	c := &chance{Rand: rand.New(rand.NewSource(3))}
	l := sample.Declared(shared)
	seen := map[bool]int{}
	for i := range 30000 {
		c.odd = []int{0, 60, 20}[i%3]
		s := c.signature()
		want := modelRight(s, l)
		seen[want]++
		if sig.Right(s, l) != want {
			t.Fatalf("%s: not %v", sig.Text(s), want)
		}
		if got := sig.Text(s); got != modelText(s) {
			t.Fatalf("%s, not %s", got, modelText(s))
		}
		if !slices.Equal(sig.Known(s), modelKnown(s)) {
			t.Fatalf("%s: %v", sig.Text(s), sig.Known(s))
		}
		var regs []int
		for range s.Regions {
			regs = append(regs, c.Intn(520)-10)
		}
		got, e := sig.Instance(s, regs)
		if e != api.OK || !same(got, modelInstance(s, regs)) {
			t.Fatalf("%s: %s", sig.Text(s), sig.Text(got))
		}
	}
	if seen[true] < 10000 || seen[false] < 5000 {
		t.Error(seen)
	}
}

// typeText is a type as it stands in a source, of whose regions some are left out.
func (c *chance) typeText(regions []string, deep int) string {
	region := func() string {
		if c.slip() {
			return "'z"
		}
		return regions[c.Intn(len(regions))]
	}
	if deep > 1 && c.Intn(3) > 0 {
		in := c.typeText(regions, deep-1)
		switch c.Intn(4) {
		case 0:
			return "Box[" + in + "]"
		case 1:
			return "Vec[" + in + "]"
		}
		told := ""
		if len(regions) > 0 && (c.told || c.Intn(3) > 0) {
			told = region() + " "
		}
		return "&" + told + []string{"", "mut "}[c.Intn(2)] + in
	}
	i := c.Intn(6)
	name := c.one("int bool unit S R Q")
	if c.slip() {
		name = c.one("U S[int] R[S] f")
	}
	if i < 3 || len(regions) == 0 {
		return name
	}
	if i == 3 && !c.told {
		return name
	}
	var told []string
	for range map[string]int{"R": 1, "Q": 2}[name] + boolean(c.slip()) {
		told = append(told, region())
	}
	if len(told) == 0 || strings.Contains(name, "[") || name == "int" || name == "bool" || name == "unit" {
		return name
	}
	return name + "<" + strings.Join(told, ", ") + ">"
}

// function is a function as it stands in a source; its name is one of a few.
func (c *chance) function(name string) string {
	regions := []string{"'a", "'b", "'c"}[:c.Intn(4)]
	if c.slip() {
		regions = append(slices.Clone(regions), c.one("'a 'b 'c"))
	}
	var args, wheres []string
	few := regions
	if c.told = c.Intn(2) == 0; c.told && len(regions) > 0 {
		few = regions[c.Intn(len(regions)):][:1]
		args = append(args, "v: &"+few[0]+" int")
	}
	for i := range c.Intn(4) {
		args = append(args, c.one("x y z")+string(rune('0'+i*boolean(!c.slip())))+": "+c.typeText(few, 1+c.Intn(3)))
	}
	if c.slip() {
		args = append(args, named("b", 21, ": int"))
	}
	for range c.Intn(3) * min(len(regions), 1) {
		r := append(slices.Clone(regions), "'z")[:len(regions)+boolean(c.slip())]
		wheres = append(wheres, r[c.Intn(len(r))]+": "+r[c.Intn(len(r))])
	}
	c.told = false
	s := "fn " + name
	if c.Intn(12) == 0 {
		s += "[T]"
	}
	if len(regions) > 0 {
		s += "<" + strings.Join(regions, ", ") + ">"
	}
	s += "(" + strings.Join(args, ", ") + ")"
	if c.Intn(3) > 0 {
		s += " -> " + c.typeText(regions, 1+c.Intn(3))
	}
	if len(wheres) > 0 {
		s += " where " + strings.Join(wheres, ", ")
	}
	return s + " {}\n"
}

// leftOut is a result in which a reference's region is left out.
var leftOut = regexp.MustCompile(`fn [a-z]+[<(].* -> [^\n]*&(mut )?[A-Za-z&]`)

// P9.6, P9.7: programs made by chance, against the chapter written out plainly.
func TestCollectChance(t *testing.T) {
	c := &chance{Rand: rand.New(rand.NewSource(4))}
	l := sample.Declared(shared)
	seen := map[api.Errno]int{}
	elided := 0
	for i := range 30000 {
		c.odd = []int{0, 60, 20}[i%3]
		s := shared
		for _, j := range c.Perm(5)[:c.Intn(4)] {
			name := []string{"f", "g", "h", "k", "main"}[j]
			if c.slip() {
				name = c.one("f g push")
			}
			s += c.function(name)
		}
		n, f := parse.Program(s)
		if f.Kind != api.OK {
			t.Fatalf("%v in\n%s", f, s)
		}
		want, fault := modelCollect(n, l)
		got, f := sig.Collect(n, l)
		seen[fault.Kind]++
		if f != fault || !alike(got, want) {
			t.Fatalf("%s\n%v %v, not %v %v", s, f, got, fault, want)
		}
		for _, x := range got {
			if !sig.Right(x, l) {
				t.Fatalf("%s\n%s isn't right", s, sig.Text(x))
			}
		}
		if f.Kind == api.OK && leftOut.MatchString(s) {
			elided++
		}
	}
	for e, least := range map[api.Errno]int{api.OK: 8000, api.ErrTwice: 500, api.ErrMany: 500, api.ErrType: 500, api.ErrRegion: 500, api.ErrElide: 1000, api.ErrFn: 1000} {
		if seen[e] < least {
			t.Error(seen)
		}
	}
	if elided < 400 {
		t.Errorf("%d with something left out in a result", elided)
	}
}
