package kind_test

import (
	"regexp"
	"strconv"
	"strings"
	"testing"

	"borrowdale/api"
	"borrowdale/kind"
)

var (
	pointer = regexp.MustCompile(`\A&(?:'([1-9][0-9]*) )?(?:mut )?`)
	holder  = regexp.MustCompile(`\A(?:Box|Vec)\[(.*)\]\z`)
	plain   = regexp.MustCompile(`\A([A-Za-z_][A-Za-z_0-9]*)(?:<('(?:0|[1-9][0-9]*)(?:, '(?:0|[1-9][0-9]*))*)>)?\z`)
)

// isText is whether a text is a right type's, as the chapter says.
func isText(s string) bool {
	may := func(digits string) bool {
		n, err := strconv.Atoi(digits)
		return digits == "" || err == nil && n <= 500
	}
	for deep := 1; deep <= 60; deep++ {
		if m := pointer.FindStringSubmatch(s); m != nil {
			if !may(m[1]) {
				return false
			}
			s = s[len(m[0]):]
			continue
		}
		if m := holder.FindStringSubmatch(s); m != nil {
			s = m[1]
			continue
		}
		m := plain.FindStringSubmatch(s)
		if m == nil || len(m[1]) > 200 {
			return false
		}
		base := m[1] == "int" || m[1] == "bool" || m[1] == "unit"
		regs := strings.Split(m[2], ", ")
		for _, r := range regs {
			if !may(strings.TrimPrefix(r, "'")) {
				return false
			}
		}
		return len(regs) <= 20 && !(base && m[2] != "")
	}
	return false
}

// told holds what Parse says of a text against the chapter.
func told(t *testing.T, s string) {
	t.Helper()
	x, e := kind.Parse(s)
	if !isText(s) {
		if e != api.ErrText || !alike(x, api.Type{}) {
			t.Errorf("%q: %v, %v", s, x, e)
		}
		return
	}
	if e != api.OK || !kind.Right(x) || kind.Text(x) != s {
		t.Errorf("%q: %v, %v", s, x, e)
	}
}

// P7.2: Parse of Text is the type.
func TestParseText(t *testing.T) {
	for _, m := range stock() {
		x, e := kind.Parse(m.text)
		y, f := kind.Parse(kind.Text(m.t))
		if e != api.OK || f != api.OK || !alike(x, m.t) || !alike(y, m.t) {
			t.Errorf("%s: %v, %v", m.text, x, e)
		}
	}
}

// P7.1: texts that are no type's.
func TestParseWrong(t *testing.T) {
	regs := strings.Repeat("'1, ", 19) + "'1"
	for _, s := range strings.Split(strings.TrimSpace(`
|Box[int|Box[int]]|Boxint]|Box[]|Box[|Vec[Box[int]|Vec[Box[int]]]|Box(int)|Box [int]|Box[ int]|Box[int ]|box[int]
| int|int |int int|int]|int<'1>|bool<'0>|unit<>|& int|&  int|&'3int|&'3  int|&'3 mut&|&'3 mut  int|&mut  int|&mut |&'3 mut |&'3 |&'|&' int|&'3|&
|&'0 int|&'00 int|&'03 int|&'3 &'0 int|&'501 int|&'-1 int|&'+1 int|&'99999999999999999999 int|&'a int|&mut '3 int|&'3 '3 int|&'3 mut mut int|&'3'4 int
|P<>|P<'1|P<'1,'2>|P<'1 , '2>|P<'1,  '2>|P< '1>|P<'1 >|P<'1, >|P<, '1>|P<'1,>|P<1>|P<'01>|P<'00>|P<'>|P<'501>|P<'1>>|P<'1>x|P<'1><'2>|P <'1>|P'1|P<<'1>>|P<'1 '2>|P<'x>
|9P|P.Q|P-|é|P[int]|List[int]|P,|,|'1|'1 int|<'1>|>|]|[|mut int|mut &int|P::Q|P int|int,bool|(int)|f n`), "|") {
		told(t, strings.Trim(s, "\n"))
		if isText(strings.Trim(s, "\n")) {
			t.Errorf("%q isn't wrong", s)
		}
	}
	for s, want := range map[string]api.Errno{
		"P<" + regs + ">":                 api.OK,
		"P<" + regs + ", '1>":             api.ErrText,
		strings.Repeat("n", 200):          api.OK,
		strings.Repeat("n", 201):          api.ErrText,
		strings.Repeat("&", 59) + "int":   api.OK,
		strings.Repeat("&", 60) + "int":   api.ErrText,
		strings.Repeat("Box[", 60):        api.ErrText,
		strings.Repeat("Box[", 1<<18):     api.ErrText,
		strings.Repeat("&mut ", 1<<18):    api.ErrText,
		"&'500 mut P<'500>":               api.OK,
		"&'500 mut P<'501>":               api.ErrText,
		"int\n":                           api.ErrText,
		"int\x00":                         api.ErrText,
		"P<'" + strings.Repeat("0", 1000): api.ErrText,
		strings.Repeat("Vec[", 59) + "P" + strings.Repeat("]", 59): api.OK,
		strings.Repeat("Vec[", 60) + "P" + strings.Repeat("]", 60): api.ErrText,
	} {
		if x, e := kind.Parse(s); e != want || e != api.OK && !alike(x, api.Type{}) {
			t.Errorf("%.40q: %v", s, e)
		}
	}
}

// P7.1, P7.2: all texts of a few pieces.
func TestParseShort(t *testing.T) {
	pieces := []string{"&", "'0", "'7", " ", "mut", "Box[", "Vec[", "]", "<", ", ", ">", "a", "int"}
	var walk func(s string, n int)
	walk = func(s string, n int) {
		told(t, s)
		for _, p := range pieces {
			if n > 0 {
				walk(s+p, n-1)
			}
		}
	}
	walk("", 5)
}

// P7.1, P7.2: texts of types with a byte more, less, or another one.
func TestParseEdits(t *testing.T) {
	bytes := "&'0159 mutaBoxVec[]<>,_-\n\xff"
	for _, m := range stock()[:250] {
		s := m.text
		for i := range len(s) + 1 {
			for j := range len(bytes) {
				told(t, s[:i]+bytes[j:j+1]+s[i:])
				if i < len(s) {
					told(t, s[:i]+bytes[j:j+1]+s[i+1:])
				}
			}
			if i < len(s) {
				told(t, s[:i]+s[i+1:])
				told(t, s[:i])
				told(t, s[i:])
			}
		}
	}
}
