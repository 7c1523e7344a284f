package kind

import "borrowdale/api"

// How much a name, and a list of regions, can have.
const (
	maxLetters = 200
	maxRegs    = 20
)

// right is whether a type that lies so deep may be.
func right(t api.Type, deep int) bool {
	if deep > api.MaxDepth {
		return false
	}
	switch t.Kind {
	case api.KInt, api.KBool, api.KUnit:
		return t.Name == "" && noReference(t) && len(t.Regs) == 0 && len(t.Args) == 0
	case api.KRef:
		return t.Name == "" && isRegion(t.Region) && len(t.Regs) == 0 && rightHeld(t.Args, deep)
	case api.KBox, api.KVec:
		return t.Name == "" && noReference(t) && len(t.Regs) == 0 && rightHeld(t.Args, deep)
	case api.KData:
		return isName(t.Name) && noReference(t) && areRegions(t.Regs) && len(t.Args) == 0
	}
	return false
}

// rightHeld is whether a type that lies so deep may hold these.
func rightHeld(args []api.Type, deep int) bool {
	return len(args) == 1 && right(args[0], deep+1)
}

// noReference is whether a type has nothing of what references alone have.
func noReference(t api.Type) bool {
	return t.Region == 0 && !t.Unique
}

// isRegion is whether a region may be.
func isRegion(r int) bool {
	return 0 <= r && r <= api.MaxRegions
}

// areRegions is whether data can have these regions.
func areRegions(l []int) bool {
	if len(l) > maxRegs {
		return false
	}
	for _, r := range l {
		if !isRegion(r) {
			return false
		}
	}
	return true
}

// isName is whether data can be called so.
func isName(s string) bool {
	if s == "" || len(s) > maxLetters || s == "int" || s == "bool" || s == "unit" {
		return false
	}
	for i, r := range s {
		if !isLetter(r) || i == 0 && isDigit(r) {
			return false
		}
	}
	return true
}

// isLetter is whether a name can have it.
func isLetter(r rune) bool {
	return 'A' <= r && r <= 'Z' || 'a' <= r && r <= 'z' || r == '_' || isDigit(r)
}

// isDigit is whether no name begins with it.
func isDigit(r rune) bool {
	return '0' <= r && r <= '9'
}
