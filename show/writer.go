package show

import (
	"strconv"
	"strings"

	"borrowdale/api"
)

// writer puts a text together, from the left. What it is given has the shape that layer 3 asks.
type writer struct {
	text  strings.Builder
	full  bool // the text would be longer than a source may be: nothing more is kept of it
	lines bool // blocks, matches and declarations are laid out in lines
	steps int  // how far in a line begins, four blanks each
}

// told is the text, or that it would be too long.
func (w *writer) told() (string, api.Errno) {
	if w.full {
		return "", api.ErrMany
	}
	return w.text.String(), api.OK
}

func (w *writer) put(l ...string) {
	for _, s := range l {
		w.full = w.full || len(s) > api.MaxSource-w.text.Len()
		if !w.full {
			w.text.WriteString(s)
		}
	}
}

func (w *writer) number(n int64) {
	w.put(strconv.FormatInt(n, 10))
}

func (w *writer) truth(n int64) {
	w.put(strconv.FormatBool(n == 1))
}

// mut puts a mut and a blank, if a node has one. The rest of its N is the number of a local, which isn't shown.
func (w *writer) mut(n api.Node) {
	if n.N%2 == 1 {
		w.put("mut ")
	}
}

// list puts nodes one behind the other, with a comma between each two.
func (w *writer) list(l []api.Node, one func(api.Node)) {
	for i, n := range l {
		if i > 0 {
			w.put(", ")
		}
		one(n)
	}
}

// listed puts a list between two texts; of no nodes nothing at all.
func (w *writer) listed(before string, l []api.Node, behind string, one func(api.Node)) {
	if len(l) == 0 {
		return
	}
	w.put(before)
	w.list(l, one)
	w.put(behind)
}

// braced puts nodes into { }, each behind a gap.
func (w *writer) braced(l []api.Node, one func(i int, n api.Node)) {
	if len(l) == 0 {
		w.put("{}")
		return
	}
	w.put("{")
	w.steps++
	for i, n := range l {
		w.gap()
		one(i, n)
	}
	w.steps--
	w.gap()
	w.put("}")
}

// gap puts the end of a line and how far in the next one begins; in one line it puts a blank.
func (w *writer) gap() {
	if !w.lines {
		w.put(" ")
		return
	}
	w.put("\n", strings.Repeat("    ", w.steps))
}

// name puts a Name, of a local, a template or a region.
func (w *writer) name(n api.Node) {
	w.put(n.Text)
}
