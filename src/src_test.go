package src

import (
	"math"
	"slices"
	"strings"
	"testing"

	"borrowdale/api"
)

// blanks is as many bytes of a source as are asked for.
func blanks(n int) string {
	return strings.Repeat(" ", n)
}

// texts is all texts of up to n bytes of the alphabet.
func texts(alphabet string, n int) []string {
	all := []string{""}
	longest := all
	for range n {
		var longer []string
		for _, s := range longest {
			for i := range len(alphabet) {
				longer = append(longer, s+alphabet[i:i+1])
			}
		}
		all = append(all, longer...)
		longest = longer
	}
	return all
}

// small is texts with bytes that sources have, and some with those that none has.
func small() []string {
	return append(texts("a\n\t", 5), texts("\n\r\xff\x00", 4)...)
}

// walk is the line and the column of each byte of s, and of the place behind, byte by byte.
func walk(s string) [][2]int {
	line, col := 1, 1
	places := [][2]int{{1, 1}}
	for i := range len(s) {
		col++
		if s[i] == '\n' {
			line, col = line+1, 1
		}
		places = append(places, [2]int{line, col})
	}
	return places
}

// P1.1
func TestCleanTakesJustTheBytesOfSources(t *testing.T) {
	for c := range 256 {
		want := api.Fault{Kind: api.ErrByte, At: 2}
		if c == 0x9 || c == 0xA || 0x20 <= c && c <= 0x7E {
			want = api.Fault{}
		}
		if f := Clean("ab" + string([]byte{byte(c)}) + "c"); f != want {
			t.Errorf("byte %x: %v, not %v", c, f, want)
		}
	}
}

// P1.1
func TestCleanTellsTheFirstByte(t *testing.T) {
	wrong := func(at int) api.Fault { return api.Fault{Kind: api.ErrByte, At: at} }
	cases := []struct {
		name, s string
		want    api.Fault
	}{
		{"no byte at all", "", api.Fault{}},
		{"ordinary", "fn main() {\n\tlet a = 1; // ~\n}\n", api.Fault{}},
		{"the first", "\x00a", wrong(0)},
		{"the last", "a\x7f", wrong(1)},
		{"two", "abc\r\x80", wrong(3)},
		{"two bytes of one rune", "ab\u00e9", wrong(2)},
		{"all that may be", blanks(65536), api.Fault{}},
		{"one too many", blanks(65537), wrong(65536)},
		{"many too many", blanks(200000), wrong(65536)},
		{"wrong as the last that may be", blanks(65535) + "\r", wrong(65535)},
		{"wrong there, and too many", blanks(65535) + "\r ", wrong(65535)},
		{"wrong just behind", blanks(65536) + "\r", wrong(65536)},
		{"wrong further behind", blanks(65540) + "\r", wrong(65536)},
		{"wrong ahead, and too many", "a\x1f" + blanks(70000), wrong(1)},
	}
	for _, c := range cases {
		if f := Clean(c.s); f != c.want {
			t.Errorf("%s: %v, not %v", c.name, f, c.want)
		}
	}
}

// P1.2
func TestLines(t *testing.T) {
	cases := []struct {
		s    string
		want []string
	}{
		{"", []string{""}},
		{"a", []string{"a"}},
		{"ab\nc", []string{"ab", "c"}},
		{"\n", []string{"", ""}},
		{"a\n", []string{"a", ""}},
		{"\n\n\ta ", []string{"", "", "\ta "}},
		{"a\r\nb\vc\fd", []string{"a\r", "b\vc\fd"}},
		{"a\u2028b\u0085\xff\n\x00", []string{"a\u2028b\u0085\xff", "\x00"}},
	}
	for _, c := range cases {
		if l := Lines(c.s); !slices.Equal(l, c.want) {
			t.Errorf("%q: %q, not %q", c.s, l, c.want)
		}
	}
}

// P1.2
func TestLinesAreOneMoreThanBytesAAndMakeTheText(t *testing.T) {
	for _, s := range append(small(), strings.Repeat("ab\n", 50000)) {
		l := Lines(s)
		if len(l) != strings.Count(s, "\n")+1 || strings.Join(l, "\n") != s {
			t.Errorf("%.20q: %d lines", s, len(l))
		}
	}
}

// P1.2
func TestLinesAreNewEachTime(t *testing.T) {
	l := Lines("a\nb")
	l[0] = "c"
	if again := Lines("a\nb"); again[0] != "a" {
		t.Errorf("%q", again)
	}
}

// P1.3
func TestWhereOfTheExample(t *testing.T) {
	for at, want := range [][2]int{{1, 1}, {1, 2}, {1, 3}, {2, 1}, {2, 2}} {
		if line, col := Where("ab\nc", at); line != want[0] || col != want[1] {
			t.Errorf("%d: %d, %d", at, line, col)
		}
	}
}

// P1.3
func TestWhereAtEdges(t *testing.T) {
	cases := []struct {
		s         string
		at        int
		line, col int
	}{
		{"", 0, 1, 1},
		{"", -1, 1, 1},
		{"", 1, 1, 1},
		{"ab\nc", -1, 1, 1},
		{"ab\nc", math.MinInt, 1, 1},
		{"ab\nc", 5, 2, 2},
		{"ab\nc", math.MaxInt, 2, 2},
		{"ab\n", 2, 1, 3},
		{"ab\n", 3, 2, 1},
		{"ab\n", 99, 2, 1},
		{"\n\n", 0, 1, 1},
		{"\n\n", 1, 2, 1},
		{"\n\n", 2, 3, 1},
		{"\u00e9\ta", 3, 1, 4},
		{"a\rb", 2, 1, 3},
		{blanks(70000), 69999, 1, 70000},
	}
	for _, c := range cases {
		if line, col := Where(c.s, c.at); line != c.line || col != c.col {
			t.Errorf("%.9q, %d: %d, %d", c.s, c.at, line, col)
		}
	}
}

// P1.3
func TestWhereGoesByteByByte(t *testing.T) {
	for _, s := range small() {
		for at, want := range walk(s) {
			if line, col := Where(s, at); line != want[0] || col != want[1] {
				t.Fatalf("%q, %d: %d, %d, not %v", s, at, line, col, want)
			}
		}
	}
}

// P1.3
func TestAtFindsWhatIsThereAndRefusesTheRest(t *testing.T) {
	for _, s := range small() {
		there := map[[2]int]int{}
		for at, place := range walk(s) {
			there[place] = at
		}
		for line := -1; line <= 8; line++ {
			for col := -1; col <= 8; col++ {
				want, ok := there[[2]int{line, col}]
				e := api.OK
				if !ok {
					e = api.ErrPlace
				}
				if at, got := At(s, line, col); at != want || got != e {
					t.Fatalf("%q, %d, %d: %d, %d, not %d, %d", s, line, col, at, got, want, e)
				}
			}
		}
	}
}

// P1.3
func TestAtRefusesGreatAndSmallNumbers(t *testing.T) {
	s := "let a;\n\tlet bc;"
	for _, n := range []int{math.MinInt, math.MinInt + 1, -1, 0, 65536, math.MaxInt - 1, math.MaxInt} {
		for _, place := range [][2]int{{n, 1}, {1, n}, {2, n}, {n, n}} {
			if at, e := At(s, place[0], place[1]); at != 0 || e != api.ErrPlace {
				t.Errorf("%v: %d, %d", place, at, e)
			}
		}
	}
}

// P1.4
func TestExcerpt(t *testing.T) {
	cases := []struct {
		s    string
		at   int
		want string
	}{
		{"", 0, "\n^\n"},
		{"", -7, "\n^\n"},
		{"", 7, "\n^\n"},
		{"ab\ncd", 0, "ab\n^\n"},
		{"ab\ncd", -1, "ab\n^\n"},
		{"ab\ncd", math.MinInt, "ab\n^\n"},
		{"ab\ncd", 1, "ab\n ^\n"},
		{"ab\ncd", 2, "ab\n  ^\n"},
		{"ab\ncd", 3, "cd\n^\n"},
		{"ab\ncd", 5, "cd\n  ^\n"},
		{"ab\ncd", 6, "cd\n  ^\n"},
		{"ab\ncd", math.MaxInt, "cd\n  ^\n"},
		{"ab\n", 2, "ab\n  ^\n"},
		{"ab\n", 3, "\n^\n"},
		{"a\n\nb", 2, "\n^\n"},
		{"\ta\tb", 0, "\ta\tb\n^\n"},
		{"\ta\tb", 1, "\ta\tb\n\t^\n"},
		{"\ta\tb", 2, "\ta\tb\n\t ^\n"},
		{"\ta\tb", 3, "\ta\tb\n\t \t^\n"},
		{"\t\n\t\t", 3, "\t\t\n\t^\n"},
		{"\u00e9a\r\x00b", 5, "\u00e9a\r\x00b\n     ^\n"},
	}
	for _, c := range cases {
		if got := Excerpt(c.s, c.at); got != c.want {
			t.Errorf("%q, %d: %q, not %q", c.s, c.at, got, c.want)
		}
	}
}

// P1.4
func TestExcerptIsTheLineAndAMarkBelow(t *testing.T) {
	for _, s := range small() {
		lines := strings.Split(s, "\n")
		for at, place := range walk(s) {
			line := lines[place[0]-1]
			want := line + "\n"
			for i := range place[1] - 1 {
				if line[i] == '\t' {
					want += "\t"
				} else {
					want += " "
				}
			}
			if got := Excerpt(s, at); got != want+"^\n" {
				t.Fatalf("%q, %d: %q", s, at, got)
			}
		}
	}
}

// kinds is what each Kind says, as the chapter lists them.
func kinds() map[api.Errno]string {
	return map[api.Errno]string{
		0:   "right",
		10:  "a byte that no source has",
		11:  "a place that isn't there",
		20:  "no token begins so",
		21:  "a comment that isn't closed",
		22:  "a number that is too great",
		30:  "a node that may not be",
		31:  "too deep",
		32:  "too many",
		40:  "another token is wanted",
		41:  "something is left over",
		60:  "no such template",
		61:  "another number of arguments is wanted",
		62:  "more instances than may be",
		63:  "a type argument that holds references",
		70:  "a text that is no type's",
		80:  "a name that is there already",
		81:  "no such type",
		82:  "no such region, or another number of them",
		83:  "a type that holds itself",
		84:  "a copy type whose parts can't be copied",
		90:  "a result's region that can't be told",
		91:  "no such function",
		100: "no such name",
		101: "no such loop",
		110: "another type is wanted",
		111: "it can't be done with a value of that type",
		112: "no such field, or not all of them",
		113: "nothing to which something can be assigned",
		114: "it isn't mutable",
		120: "a value that no pattern takes",
		121: "a pattern that takes nothing more",
		130: "a value of more than MaxWords words",
		140: "a body that may not be",
		143: "a statement or an end that may not be",
		144: "a move out of what is behind a pointer, or a copy of what can't be copied",
		145: "a write, or a unique borrow, through a shared reference",
		150: "a text that is none",
		160: "a function that comes to more than may be",
		190: "something that may not be set is used",
		191: "something that may be set is set as if it weren't",
		192: "something that needs a drop may be left over",
		193: "something that isn't mutable may be set again",
		240: "a region that must outlive another one, and isn't said to",
		270: "it is borrowed",
		280: "a certificate that doesn't hold",
		290: "a path that shows nothing",
		300: "a touch of what is freed",
		301: "it is freed already",
		302: "a touch of what never was",
		303: "no room",
		310: "a program that may not be",
		311: "it has stopped already",
		320: "bytes that are no program's",
		360: "nothing to be run",
		410: "a line that is none",
	}
}

// P1.5
func TestMessageSaysEachKind(t *testing.T) {
	for kind, words := range kinds() {
		want := "line 2, column 5: " + words + "\nlet b;\n    ^\n"
		if got := Message("a\nlet b;\n", api.Fault{Kind: kind, At: 6}); got != want {
			t.Errorf("%d: %q, not %q", kind, got, want)
		}
	}
}

// P1.5
func TestMessageSaysTheNumberOfAnyOtherKind(t *testing.T) {
	listed := kinds()
	for kind := api.Errno(-420); kind <= 5000; kind++ {
		_, ok := listed[kind]
		told := strings.Contains(Message("", api.Fault{Kind: kind}), ": a fault of the number ")
		if told == ok {
			t.Errorf("%d: listed %v, told by its number %v", kind, ok, told)
		}
	}
	numbers := map[api.Errno]string{
		1:             "1",
		-1:            "-1",
		-10:           "-10",
		141:           "141",
		999:           "999",
		411:           "411",
		math.MaxInt64: "9223372036854775807",
		math.MinInt64: "-9223372036854775808",
	}
	for kind, number := range numbers {
		want := "line 1, column 2: a fault of the number " + number + "\nab\n ^\n"
		if got := Message("ab", api.Fault{Kind: kind, At: 1}); got != want {
			t.Errorf("%d: %q, not %q", kind, got, want)
		}
	}
}

// P1.5
func TestMessageTellsThePlace(t *testing.T) {
	cases := []struct {
		s    string
		at   int
		want string
	}{
		{"", 0, "line 1, column 1: no such name\n\n^\n"},
		{"", 5, "line 1, column 1: no such name\n\n^\n"},
		{"ab\n\tc", -3, "line 1, column 1: no such name\nab\n^\n"},
		{"ab\n\tc", 2, "line 1, column 3: no such name\nab\n  ^\n"},
		{"ab\n\tc", 4, "line 2, column 2: no such name\n\tc\n\t^\n"},
		{"ab\n\tc", 5, "line 2, column 3: no such name\n\tc\n\t ^\n"},
		{"ab\n\tc", math.MaxInt, "line 2, column 3: no such name\n\tc\n\t ^\n"},
		{"\n\xff\r\n", 2, "line 2, column 2: no such name\n\xff\r\n ^\n"},
		{strings.Repeat("\n", 11) + "0123456789", 20, "line 12, column 10: no such name\n0123456789\n         ^\n"},
	}
	for _, c := range cases {
		if got := Message(c.s, api.Fault{Kind: api.ErrName, At: c.at}); got != c.want {
			t.Errorf("%q, %d: %q, not %q", c.s, c.at, got, c.want)
		}
	}
}

// P1.5
func TestMessageIsWhereAndExcerpt(t *testing.T) {
	for _, s := range small() {
		for at := -2; at <= len(s)+2; at++ {
			first, rest, _ := strings.Cut(Message(s, api.Fault{At: at}), "\n")
			if !strings.HasSuffix(first, ": right") || rest != Excerpt(s, at) {
				t.Fatalf("%q, %d: %q, %q", s, at, first, rest)
			}
		}
	}
}
