package parse_test

import (
	"strconv"
	"strings"

	"borrowdale/api"
)

// kinds is the kinds' names, by their numbers.
var kinds = func() map[int]string {
	l := map[int]string{}
	for first, words := range map[int]string{
		0:  "None Program Struct Choice Fn Names Name Arg Args Where Wheres FieldDecl CaseDecl",
		20: "TInt TBool TUnit TName TRef TBox TVec",
		30: "Let Eval",
		40: "Int Bool Nothing Unary Binary Borrow Deref Field Call TArgs Build Init Case If While Loop Break Continue Return Block Match Arm Assign",
		70: "PAny PName PInt PBool PCase",
	} {
		for i, s := range strings.Fields(words) {
			l[first+i] = s
		}
	}
	return l
}()

// text is a tree as a text: of each node its kind, its Text, its N behind #, its At behind @, if they aren't zero, and its Kids in ( ).
func text(n api.Node) string {
	var b strings.Builder
	write(&b, n)
	return b.String()
}

func write(b *strings.Builder, n api.Node) {
	b.WriteString(kinds[n.Kind])
	if n.Text != "" {
		b.WriteString(" " + n.Text)
	}
	if n.N != 0 {
		b.WriteString(" #" + strconv.FormatInt(n.N, 10))
	}
	if n.At != 0 {
		b.WriteString(" @" + strconv.Itoa(n.At))
	}
	for i, kid := range n.Kids {
		b.WriteString([]string{"(", ", "}[min(i, 1)])
		write(b, kid)
	}
	if len(n.Kids) > 0 {
		b.WriteString(")")
	}
}
