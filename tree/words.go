package tree

import (
	"math"
	"strings"

	"borrowdale/api"
	"borrowdale/lex"
)

// mayText is whether a text is what a Kind asks.
func mayText(kind int, s string) bool {
	switch kind {
	case api.Struct, api.Choice, api.Fn, api.Name, api.Arg, api.FieldDecl, api.CaseDecl, api.TName,
		api.Let, api.Field, api.Call, api.Build, api.Init, api.PName:
		return isName(s)
	case api.Where:
		return isRegion(s)
	case api.TRef, api.While, api.Loop, api.Break, api.Continue:
		return s == "" || isRegion(s)
	case api.Case, api.PCase:
		return isCase(s)
	case api.Unary:
		return s == "-" || s == "!"
	case api.Binary:
		return isBinary(s)
	}
	return s == ""
}

// mayNumber is whether a number is what a Kind asks.
func mayNumber(kind int, n int64) bool {
	switch kind {
	case api.Struct, api.Choice, api.Arg, api.TRef, api.Bool, api.Borrow, api.PBool:
		return n == 0 || n == 1
	case api.Let, api.Name, api.Int, api.PName:
		return n >= 0
	case api.PInt:
		return n > math.MinInt64
	}
	return n == 0
}

// isName is whether a text is a name.
func isName(s string) bool {
	return isWord(s) && s != "_" && !lex.Keyword(s)
}

// isRegion is whether a text is a region.
func isRegion(s string) bool {
	word, ok := strings.CutPrefix(s, "'")
	return ok && isWord(word)
}

// isCase is whether a text is a case.
func isCase(s string) bool {
	choice, part, ok := strings.Cut(s, "::")
	return ok && isName(choice) && isName(part)
}

// isBinary is whether a text is an operator between two expressions.
func isBinary(s string) bool {
	switch s {
	case "||", "&&", "==", "!=", "<", "<=", ">", ">=", "+", "-", "*", "/", "%":
		return true
	}
	return false
}

// isWord is whether a text is a letter or _, and letters, digits and _.
func isWord(s string) bool {
	for i := range len(s) {
		digit := '0' <= s[i] && s[i] <= '9'
		if !digit && !isLetter(s[i]) || digit && i == 0 {
			return false
		}
	}
	return s != ""
}

// isLetter is whether a byte is a letter or _.
func isLetter(c byte) bool {
	return 'a' <= c && c <= 'z' || 'A' <= c && c <= 'Z' || c == '_'
}
