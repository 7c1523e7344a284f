package parse_test

import (
	"strings"

	"borrowdale/api"
	"borrowdale/lex"
)

// rules is the chapter as a grammar. NAME, NUMBER and REGION are tokens of that kind, and what stands in quotes is a token.
// list(x) may have no part, and may end with ","; some(x) has one at least; chain(x) too, and doesn't end with ",".
// Of an expression, ~ is which one it is, as told in variants, and ^ is how its later parts are: bare or not, whatever they begin with.
const rules = `
program = items
items = | items item
item = copy "struct" NAME T R "{" list(field) "}"
item = copy "choice" NAME T R "{" list(case) "}"
item = "fn" NAME T R "(" list(arg) ")" result W block
copy = | "copy"
mut = | "mut"
field = NAME ":" type
case = NAME | NAME "(" list(type) ")"
arg = mut NAME ":" type
T = | "[" some(NAME) "]"
R = | "<" chain(REGION) ">"
W = | "where" chain(where)
where = REGION ":" REGION
result = | "->" type
type = "int" | "bool" | "unit" | "&" region mut type | "&&" region mut type
type = "Box" "[" type "]" | "Vec" "[" type "]" | NAME G R
region = | REGION
G = | "[" some(type) "]"
block = "{" statements "}" | "{" statements last "}"
statements = | statements statement
statement = "let" mut NAME typed set ";" | closed | closed ";" | expression.open ";"
last = closed | expression.open
typed = | ":" type
set = | "=" expression
expression~ = either~ | either~ "=" expression^
either~ = both~ | either~ "||" both^
both~ = compared~ | both~ "&&" compared^
compared~ = summed~ | summed~ compares summed^
compares = "==" | "!=" | "<" | "<=" | ">" | ">="
summed~ = times~ | summed~ "+" times^ | summed~ "-" times^
times~ = prefixed~ | times~ "*" prefixed^ | times~ "/" prefixed^ | times~ "%" prefixed^
prefixed~ = "-" prefixed^ | "!" prefixed^ | "*" prefixed^ | "&" mut prefixed^ | "&&" mut prefixed^ | posted~
posted~ = primary~ | posted~ "." NAME
primary~ = NUMBER | "true" | "false" | "(" ")" | "(" expression ")" | NAME | NAME G "(" list(expression) ")"
primary~ = NAME "::" NAME G | NAME "::" NAME G "(" list(expression) ")"
primary~ = build^ | closed~ | "break" region value^ | "continue" region | "return" value^
build = NAME G "{" list(init) "}"
init = NAME ":" expression
closed = ahead | block
closed.bare = ahead | block
closed.bare.nobrace = ahead
ahead = if | label "while" expression.bare block | label "loop" block | "match" expression.bare "{" list(arm) "}"
if = "if" expression.bare block | "if" expression.bare block "else" block | "if" expression.bare block "else" if
label = | REGION ":"
value = | expression
value.bare = | expression.bare.nobrace
arm = pattern "=>" expression
pattern = "_" | mut NAME | NUMBER | "-" NUMBER | "true" | "false" | NAME "::" NAME | NAME "::" NAME "(" list(pattern) ")"
`

// variants is which expressions there are: bare or not; and open: one that begins with what is closed is none; nobrace: one that begins with "{" is none.
var variants = [][2]string{{"", ""}, {".open", ""}, {".bare", ".bare"}, {".bare.nobrace", ".bare"}}

// grammar is rules, each with a state for each place within it; from the next state on there is one symbol less.
type grammar struct {
	symbols map[string]int
	empty   []bool  // by symbol: whether it may be no token at all
	starts  [][]int // by symbol: the first states of its rules
	next    []int   // by state: the symbol that stands there, or -1
	left    []int   // by state: of which symbol its rule is
}

// read is a grammar of the rules.
func read() *grammar {
	g := &grammar{symbols: map[string]int{}}
	for _, line := range strings.Split(strings.TrimSpace(rules), "\n") {
		if !strings.ContainsAny(line, "~^") {
			g.line(line)
			continue
		}
		for _, v := range variants {
			g.line(strings.NewReplacer("~", v[0], "^", v[1]).Replace(line))
		}
	}
	for again := true; again; {
		again = false
		for s, l := range g.starts {
			for _, state := range l {
				for g.next[state] >= 0 && g.empty[g.next[state]] {
					state++
				}
				if g.next[state] < 0 && !g.empty[s] {
					g.empty[s], again = true, true
				}
			}
		}
	}
	return g
}

func (g *grammar) line(line string) {
	name, all, _ := strings.Cut(line, " =")
	for _, one := range strings.Split(strings.ReplaceAll(all, `"||"`, "OR"), "|") {
		g.rule(name, strings.Fields(strings.ReplaceAll(one, "OR", `"||"`)))
	}
}

func (g *grammar) rule(name string, right []string) {
	left := g.symbol(name)
	var symbols []int
	for _, s := range right {
		symbols = append(symbols, g.symbol(s))
	}
	g.starts[left] = append(g.starts[left], len(g.next))
	for _, s := range append(symbols, -1) {
		g.next = append(g.next, s)
		g.left = append(g.left, left)
	}
}

// symbol is a symbol's number; the rules of lists are told when there is the first one.
func (g *grammar) symbol(s string) int {
	if n, ok := g.symbols[s]; ok {
		return n
	}
	n := len(g.symbols)
	g.symbols[s] = n
	g.starts = append(g.starts, nil)
	g.empty = append(g.empty, false)
	if sort, part, ok := strings.Cut(strings.TrimSuffix(s, ")"), "("); ok && s[0] != '"' {
		parts := "parts(" + part + ")"
		switch sort {
		case "parts":
			g.rule(s, []string{part})
			g.rule(s, []string{s, `","`, part})
		case "list":
			g.rule(s, nil)
			fallthrough
		case "some":
			g.rule(s, []string{parts, `","`})
			fallthrough
		case "chain":
			g.rule(s, []string{parts})
		}
	}
	return n
}

// item is a rule up to a place within it, and how many tokens stood ahead of it.
type item struct{ state, from int }

// set is all rules that may go on behind some tokens.
type set struct {
	items []item
	seen  map[item]bool
	wait  map[int][]item // by the symbol that must come next
}

// chart is which rules may go on behind each of some tokens (Earley's).
type chart struct {
	*grammar
	start int
	sets  []*set
}

// chartOf is a chart of no token.
func (g *grammar) chartOf(start string) *chart {
	c := &chart{grammar: g, start: g.symbols[start]}
	s := newSet()
	for _, state := range g.starts[c.start] {
		c.put(s, item{state, 0})
	}
	c.close(s)
	return c
}

func newSet() *set {
	return &set{seen: map[item]bool{}, wait: map[int][]item{}}
}

func (c *chart) put(s *set, i item) {
	if s.seen[i] {
		return
	}
	s.seen[i] = true
	s.items = append(s.items, i)
	if n := c.next[i.state]; n >= 0 {
		s.wait[n] = append(s.wait[n], i)
	}
}

// close puts all that follows into a set, and it behind the others.
func (c *chart) close(s *set) {
	c.sets = append(c.sets, s)
	here := len(c.sets) - 1
	for k := 0; k < len(s.items); k++ {
		i := s.items[k]
		n := c.next[i.state]
		if n < 0 {
			for _, w := range c.sets[i.from].wait[c.left[i.state]] {
				c.put(s, item{w.state + 1, w.from})
			}
			continue
		}
		for _, state := range c.starts[n] {
			c.put(s, item{state, here})
		}
		if c.empty[n] {
			c.put(s, item{i.state + 1, i.from})
		}
	}
}

// push takes a token; false: no source, whatever follows, goes on with it.
func (c *chart) push(t api.Token) bool {
	s := newSet()
	for _, name := range symbolsOf(t) {
		if n, ok := c.symbols[name]; ok {
			for _, w := range c.sets[len(c.sets)-1].wait[n] {
				c.put(s, item{w.state + 1, w.from})
			}
		}
	}
	if len(s.items) == 0 {
		return false
	}
	c.close(s)
	return true
}

func (c *chart) pop() {
	c.sets = c.sets[:len(c.sets)-1]
}

// whole is whether the tokens are all of what is asked.
func (c *chart) whole() bool {
	for _, i := range c.sets[len(c.sets)-1].items {
		if i.from == 0 && c.left[i.state] == c.start && c.next[i.state] < 0 {
			return true
		}
	}
	return false
}

// symbolsOf is which symbols a token may be.
func symbolsOf(t api.Token) []string {
	switch {
	case t.Kind == lex.Number:
		return []string{"NUMBER"}
	case t.Kind == lex.Region:
		return []string{"REGION"}
	case t.Kind == lex.Word && !lex.Keyword(t.Text) && t.Text != "_":
		return []string{"NAME"}
	}
	return []string{`"` + t.Text + `"`}
}

// stuck is what is wrong with the token that couldn't be pushed.
func (c *chart) stuck() api.Errno {
	if c.start != c.symbols["program"] && c.whole() {
		return api.ErrRest
	}
	return api.ErrWant
}

// fault is the first fault in tokens, of a source so long.
func (c *chart) fault(tokens []api.Token, size int) api.Fault {
	begun := len(c.sets)
	defer func() { c.sets = c.sets[:begun] }()
	for _, t := range tokens {
		if !c.push(t) {
			return api.Fault{Kind: c.stuck(), At: t.At}
		}
	}
	if !c.whole() {
		return api.Fault{Kind: api.ErrWant, At: size}
	}
	return api.Fault{}
}
