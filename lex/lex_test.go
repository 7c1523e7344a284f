package lex

import (
	"regexp"
	"slices"
	"strings"
	"testing"

	"borrowdale/api"
)

// signs is each Sign of the chapter.
func signs() []string {
	return strings.Fields("( ) { } [ ] , ; : :: . -> => = == != < <= > >= + - * / % ! & && ||")
}

// keywords is each keyword of the chapter.
func keywords() []string {
	return strings.Fields("struct choice copy fn let mut if else while loop break continue return match true false where Box Vec int bool unit")
}

// texts is all texts of up to n pieces.
func texts(pieces []string, n int) []string {
	all := []string{""}
	longest := all
	for range n {
		var longer []string
		for _, s := range longest {
			for _, p := range pieces {
				longer = append(longer, s+p)
			}
		}
		all = append(all, longer...)
		longest = longer
	}
	return all
}

// small is texts in which all that may stand beside each other does.
func small() []string {
	all := texts(strings.Split("a07'/*\n |", ""), 5)
	all = append(all, texts(strings.Split(":-=!<>&|./*", ""), 4)...)
	all = append(all, texts(append(signs(), "fn", "fnx", "'fn", "10", "9223372036854775808", "#", " ", "\t"), 2)...)
	return append(all, ordinary())
}

// ordinary is a source with everything that sources have.
func ordinary() string {
	return `// a list
choice List { End, Cons(int, Box<List>), }
/* its
   sum */
fn sum<'a>(l: &'a List, mut n: int) -> int where 'a: 'b {
	'next: loop {
		match *l { List::Cons(i, rest) => n = n + i * 10 % 3 - -1, _ => break 'next, }
		if n >= 0 && !(n <= 1 || n != 007) { v[1].x = &mut n == 2 } else { return n / 1; }
	}
}
`
}

// kinds is what a token, a gap or a fault of the reference is, each with all texts that it has.
type kinds struct {
	kind int
	err  api.Errno
	text *regexp.Regexp
}

// reference is the chapter's list, as patterns: of those that fit, the first one is taken, as long as it can be.
func reference() []kinds {
	fit := func(pattern string) *regexp.Regexp {
		r := regexp.MustCompile(`^(?:` + pattern + `)`)
		r.Longest()
		return r
	}
	var sign []string
	for _, s := range signs() {
		sign = append(sign, regexp.QuoteMeta(s))
	}
	return []kinds{
		{0, 0, fit(`[\x20\x09\x0A]`)},
		{0, 0, fit(`//[^\x0A]*`)},
		{0, 0, fit(`/\*([^*]|\*+[^*/])*\*+/`)},
		{0, api.ErrOpen, fit(`/\*`)},
		{0, api.ErrBig, fit(`[1-9][0-9]{19,}|9[3-9][0-9]{17}|92233720368547758(0[8-9]|[1-9][0-9])|922337203685477[6-9][0-9]{3}`)},
		{1, 0, fit(`0|[1-9][0-9]*`)},
		{2, 0, fit(`[A-Za-z_][A-Za-z_0-9]*`)},
		{3, 0, fit(`'[A-Za-z_][A-Za-z_0-9]*`)},
		{4, 0, fit(strings.Join(sign, "|"))},
		{0, api.ErrToken, fit(`.`)},
	}
}

// tokensBy is a source's tokens by the reference.
func tokensBy(patterns []kinds, s string) ([]api.Token, api.Fault) {
	var l []api.Token
	for at := 0; at < len(s); {
		i := slices.IndexFunc(patterns, func(k kinds) bool { return k.text.MatchString(s[at:]) })
		k, text := patterns[i], patterns[i].text.FindString(s[at:])
		if k.err != api.OK {
			return nil, api.Fault{Kind: k.err, At: at}
		}
		if k.kind != 0 {
			l = append(l, api.Token{Kind: k.kind, Text: text, At: at})
		}
		at += len(text)
	}
	return l, api.Fault{}
}

// told is tokens as a text: "2fn@0 4(@2".
func told(l []api.Token) string {
	var all []string
	for _, t := range l {
		all = append(all, string(rune('0'+t.Kind))+t.Text+"@"+place(t.At))
	}
	return strings.Join(all, " ")
}

func place(n int) string {
	if n < 10 {
		return string(rune('0' + n))
	}
	return place(n/10) + place(n%10)
}

// P2.1
func TestTokens(t *testing.T) {
	cases := []struct{ name, s, want string }{
		{"the example", "fn f(x:&'a int){} // no", "2fn@0 2f@3 4(@4 2x@5 4:@6 4&@7 3'a@8 2int@11 4)@14 4{@15 4}@16"},
		{"no byte at all", "", ""},
		{"blanks alone", " \t\n ", ""},
		{"comments alone", "/**/ // a\n//\n/* b\n*/", ""},
		{"a comment ends with the source", "a // b", "2a@0"},
		{"// alone", "//", ""},
		{"a comment that is closed at the end", "a /* b */", "2a@0"},
		{"the shortest that is closed", "/**/a", "2a@4"},
		{"a star ahead of the end", "/***/a /* **/b", "2a@5 2b@13"},
		{"/*/ that is closed behind", "/*/a*/b", "2b@6"},
		{"comments aren't nested", "/* /* */ a */", "2a@9 4*@11 4/@12"},
		{"// in a comment that is closed", "/* // */ a", "2a@9"},
		{"/* in a comment up to the line's end", "// /* \na", "2a@7"},
		{"// ends with the line alone", "// a\t b\nc", "2c@8"},
		{"a//b", "a//b\nc", "2a@0 2c@5"},
		{"a/**/b", "a/**/b", "2a@0 2b@5"},
		{"//*", "//* a\nb*/c", "2b@6 4*@7 4/@8 2c@9"},
		{"/ and / with a blank between", "/ / * /", "4/@0 4/@2 4*@4 4/@6"},
		{"*// begins a comment", "*//a", "4*@0"},
		{"0", "0", "10@0"},
		{"01", "01", "10@0 11@1"},
		{"00", "00", "10@0 10@1"},
		{"1a", "1a", "11@0 2a@1"},
		{"0x1", "0x1", "10@0 2x1@1"},
		{"10", "10 90", "110@0 190@3"},
		{"_", "_ _1 a_b", "2_@0 2_1@2 2a_b@5"},
		{"the greatest number", "9223372036854775807", "19223372036854775807@0"},
		{"and a letter", "9223372036854775807a", "19223372036854775807@0 2a@19"},
		{"zeros ahead are tokens", "09223372036854775807", "10@0 19223372036854775807@1"},
		{"a minus is none of the number's", "-9223372036854775807", "4-@0 19223372036854775807@1"},
		{"many zeros", strings.Repeat("0", 3), "10@0 10@1 10@2"},
		{"regions", "'a '_ 'A1 'fn'b", "3'a@0 3'_@3 3'A1@6 3'fn@10 3'b@13"},
		{"a region ends as a word does", "'a-'b", "3'a@0 4-@2 3'b@3"},
		{"keywords, and words that begin with one", "fn fn1 fn_ fns lets", "2fn@0 2fn1@3 2fn_@7 2fns@11 2lets@15"},
		{"||", "a||b", "2a@0 4||@1 2b@3"},
		{"::", ":::", "4::@0 4:@2"},
		{"a longer sign first", "->=>==!=<=>=&&||::", "4->@0 4=>@2 4==@4 4!=@6 4<=@8 4>=@10 4&&@12 4||@14 4::@16"},
		{"from the left", "=== <=> &&& -->", "4==@0 4=@2 4<=@4 4>@6 4&&@8 4&@10 4-@12 4->@13"},
		{"no sign of three", "=>=", "4=>@0 4=@2"},
		{"none but these", ">><<..++", "4>@0 4>@1 4<@2 4<@3 4.@4 4.@5 4+@6 4+@7"},
		{"not across a blank", "= = : : & & - >", "4=@0 4=@2 4:@4 4:@6 4&@8 4&@10 4-@12 4>@14"},
	}
	for _, c := range cases {
		l, f := Tokens(c.s)
		if f != (api.Fault{}) || told(l) != c.want {
			t.Errorf("%s: %s, %v, not %s", c.name, told(l), f, c.want)
		}
	}
}

// P2.1
func TestTokensTellTheFirstFault(t *testing.T) {
	blanks := strings.Repeat(" ", 65536)
	digits := strings.Repeat("9", 65530)
	cases := []struct {
		name, s string
		kind    api.Errno
		at      int
	}{
		{"not closed", "x/*", api.ErrOpen, 1},
		{"/*/", "/*/", api.ErrOpen, 0},
		{"/* and a star", "/* a *", api.ErrOpen, 0},
		{"/* that is closed ahead alone", "* /**/ /*/", api.ErrOpen, 7},
		{"the second one isn't closed", "/**//*", api.ErrOpen, 4},
		{"a comment in which a token is none", "a /* | ", api.ErrOpen, 2},
		{"the least that is too great", "9223372036854775808", api.ErrBig, 0},
		{"behind a minus", "-9223372036854775808", api.ErrBig, 1},
		{"a digit more", " 10000000000000000000", api.ErrBig, 1},
		{"the least number goes round to it", "18446744073709551616", api.ErrBig, 0},
		{"far longer", "a " + digits, api.ErrBig, 2},
		{"behind a zero", "09223372036854775808", api.ErrBig, 1},
		{"a region without a word", "'", api.ErrToken, 0},
		{"a digit in a word's place", "a'1", api.ErrToken, 1},
		{"a blank in a word's place", "' a", api.ErrToken, 0},
		{"two in a row", "''a", api.ErrToken, 0},
		{"| alone", "a | b", api.ErrToken, 2},
		{"three of them", "|||", api.ErrToken, 2},
		{"a byte that no token has", "a#", api.ErrToken, 1},
		{"several: a token", "# 9223372036854775808 /*", api.ErrToken, 0},
		{"several: a number", "9223372036854775808 # /*", api.ErrBig, 0},
		{"several: a comment", "/* # 9223372036854775808", api.ErrOpen, 0},
		{"a byte that no source has", "a\x00", api.ErrByte, 1},
		{"that, ahead of a token", "# a\r", api.ErrByte, 3},
		{"that, ahead of a comment", "/* \x7f", api.ErrByte, 3},
		{"that, ahead of a number", "9223372036854775808\x80", api.ErrByte, 19},
		{"that, within a comment", "/* \xff */", api.ErrByte, 3},
		{"too long", blanks + " ", api.ErrByte, 65536},
		{"that, ahead of a token", "#" + blanks, api.ErrByte, 65536},
		{"that, ahead of an open comment", "/*" + blanks, api.ErrByte, 65536},
	}
	for _, c := range cases {
		l, f := Tokens(c.s)
		if want := (api.Fault{Kind: c.kind, At: c.at}); f != want || len(l) != 0 {
			t.Errorf("%s: %v, not %v, and %d tokens", c.name, f, want, len(l))
		}
	}
}

// P2.1
func TestBytesThatBeginNoToken(t *testing.T) {
	begins := " \t\n'_" + strings.Join(signs(), "")
	for c := byte(' '); c <= '~'; c++ {
		letter := 'a' <= c|0x20 && c|0x20 <= 'z'
		want := api.Fault{}
		if c == '|' || c == '\'' || !letter && (c < '0' || c > '9') && strings.IndexByte(begins, c) < 0 {
			want = api.Fault{Kind: api.ErrToken, At: 1}
		}
		if _, f := Tokens("(" + string(rune(c))); f != want {
			t.Errorf("%c: %v, not %v", c, f, want)
		}
	}
}

// P2.1
func TestEachSignIsOneToken(t *testing.T) {
	for _, s := range signs() {
		if l, f := Tokens(" " + s + " "); f.Kind != api.OK || !slices.Equal(l, []api.Token{{Kind: Sign, Text: s, At: 1}}) {
			t.Errorf("%s: %v, %v", s, l, f)
		}
	}
}

// P2.1
func TestTokensAreTheReferencesTokens(t *testing.T) {
	patterns := reference()
	for _, s := range small() {
		l, f := Tokens(s)
		want, fault := tokensBy(patterns, s)
		if f != fault || !slices.Equal(l, want) {
			t.Fatalf("%q: %s, %v, not %s, %v", s, told(l), f, told(want), fault)
		}
	}
}

// P2.1
func TestTokensOfTheLongestSources(t *testing.T) {
	for s, want := range map[string]int{
		strings.Repeat("(", 65536):                    65536,
		strings.Repeat("a", 65536):                    1,
		"/*" + strings.Repeat(" ", 65532) + "*/":      0,
		"//" + strings.Repeat("/", 65534):             0,
		strings.Repeat("/**/", 16384):                 0,
		strings.Repeat("1 ", 32767) + " a":            32768,
		"'" + strings.Repeat("b", 65535):              1,
		strings.Repeat("/*/*/", 13107) + "a":          1,
		strings.Repeat("9223372036854775807\n", 3276): 3276,
	} {
		if l, f := Tokens(s); f != (api.Fault{}) || len(l) != want {
			t.Errorf("%.9q: %d tokens, not %d, %v", s, len(l), want, f)
		}
	}
}

// P2.1
func TestTokensAreNewEachTime(t *testing.T) {
	l, _ := Tokens("a b")
	l[0].Text = "c"
	if again, _ := Tokens("a b"); again[0].Text != "a" {
		t.Errorf("%s", told(again))
	}
}

// P2.1
func TestKeyword(t *testing.T) {
	for _, s := range keywords() {
		if !Keyword(s) {
			t.Errorf("%s is none", s)
		}
		for _, other := range []string{s + "s", s[:len(s)-1], s[1:], strings.ToUpper(s), " " + s, s + " ", "'" + s, s + "_", s + s} {
			if Keyword(other) {
				t.Errorf("%q is one", other)
			}
		}
	}
	for _, s := range []string{"", "a", "box", "vec", "Int", "_", "self", "for", "in", "(", "0", "push", "print", "struct choice"} {
		if Keyword(s) {
			t.Errorf("%q is one", s)
		}
	}
}

// P2.1
func TestJoin(t *testing.T) {
	cases := []struct {
		texts []string
		want  string
	}{
		{nil, ""},
		{[]string{"fn"}, "fn"},
		{[]string{"a", "::", "b"}, "a :: b"},
		{[]string{""}, ""},
		{[]string{"", ""}, " "},
		{[]string{"", "a", ""}, " a "},
		{[]string{" ", "\n", "/*", "\x00\xff"}, "  \n /* \x00\xff"},
	}
	for _, c := range cases {
		var l []api.Token
		for i, s := range c.texts {
			l = append(l, api.Token{Kind: -i, Text: s, At: 9 - i})
		}
		if s := Join(l); s != c.want {
			t.Errorf("%q: %q, not %q", c.texts, s, c.want)
		}
	}
}

// P2.1
func TestSame(t *testing.T) {
	a, b := api.Token{Kind: Word, Text: "a", At: 3}, api.Token{Kind: Word, Text: "b", At: 5}
	list := func(l ...api.Token) []api.Token { return l }
	cases := []struct {
		name string
		a, b []api.Token
		want bool
	}{
		{"none", nil, list(), true},
		{"one and the same", list(a, b), list(a, b), true},
		{"elsewhere", list(a, b), list(api.Token{Kind: Word, Text: "a"}, api.Token{Kind: Word, Text: "b", At: -1}), true},
		{"that no source has", list(api.Token{Kind: -9}), list(api.Token{Kind: -9, At: 1}), true},
		{"none and one", nil, list(a), false},
		{"one that is no token, and none", list(api.Token{}), nil, false},
		{"a beginning", list(a), list(a, b), false},
		{"a longer one", list(a, b, a), list(a, b), false},
		{"an end", list(b), list(a, b), false},
		{"another order", list(a, b), list(b, a), false},
		{"another text", list(a, a), list(a, b), false},
		{"another kind", list(b, a), list(b, api.Token{Kind: Region, Text: "a", At: 3}), false},
		{"the first one alone is unlike", list(a, b), list(api.Token{Kind: Sign, Text: "a", At: 3}, b), false},
		{"the same text, cut elsewhere", list(api.Token{Kind: Word, Text: "ab"}, api.Token{Kind: Word, Text: "c"}),
			list(api.Token{Kind: Word, Text: "a"}, api.Token{Kind: Word, Text: "bc"}), false},
	}
	for _, c := range cases {
		if Same(c.a, c.b) != c.want || Same(c.b, c.a) != c.want {
			t.Errorf("%s: not %v", c.name, c.want)
		}
	}
}

// P2.1
func TestListsAreNotWrittenInto(t *testing.T) {
	l, _ := Tokens(ordinary())
	kept := slices.Clone(l)
	Join(l)
	Same(l, l[:3])
	if !slices.Equal(l, kept) {
		t.Errorf("%s", told(l))
	}
}

// P2.2
func TestTextsStandAtTheirPlaces(t *testing.T) {
	for _, s := range small() {
		l, _ := Tokens(s)
		end := 0
		for _, k := range l {
			if k.Text == "" || k.At < end || !strings.HasPrefix(s[k.At:], k.Text) {
				t.Fatalf("%q: %s", s, told(l))
			}
			end = k.At + len(k.Text)
		}
	}
}

// P2.3
func TestTokensJoinedHaveTheSameTokens(t *testing.T) {
	for _, s := range append(small(), strings.Repeat("(", 32768), strings.Repeat("1a", 16384)) {
		l, _ := Tokens(s)
		again, f := Tokens(Join(l))
		if f != (api.Fault{}) || !Same(l, again) {
			t.Fatalf("%.20q: %s, %v", s, told(again), f)
		}
	}
}

// P2.4
func TestGapsMakeNoDifference(t *testing.T) {
	gaps := []string{" ", "\n", "\t", "  \n\t", "/**/", "/* ' 9223372036854775808 # /* */", "// | /*\n", " //\n/*/*/\t", "/***//**/"}
	for _, s := range small() {
		l, f := Tokens(s)
		if f.Kind != api.OK || len(s) > 4 && s != ordinary() {
			continue
		}
		for i, g := range gaps {
			var b strings.Builder
			b.WriteString(g)
			var at []int
			for j, k := range l {
				at = append(at, b.Len())
				b.WriteString(k.Text)
				// Right behind a / a comment would begin one byte ahead of itself.
				if k.Text == "/" {
					b.WriteByte(' ')
				}
				b.WriteString(gaps[(i+j)%len(gaps)])
			}
			again, f := Tokens(b.String())
			if f != (api.Fault{}) || !Same(l, again) {
				t.Fatalf("%q, %q: %s, %v", s, b.String(), told(again), f)
			}
			if !slices.EqualFunc(again, at, func(k api.Token, n int) bool { return k.At == n }) {
				t.Fatalf("%q: %s, not at %v", b.String(), told(again), at)
			}
		}
	}
}
