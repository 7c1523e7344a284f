package src

import (
	"strconv"

	"borrowdale/api"
)

// says is what a Kind says. The words stand in four functions, by layers, as one would be too long.
func says(kind api.Errno) string {
	words := saysOfTexts(kind)
	if words == "" {
		words = saysOfTypes(kind)
	}
	if words == "" {
		words = saysOfBlocks(kind)
	}
	if words == "" {
		words = saysOfRuns(kind)
	}
	if words == "" {
		words = "a fault of the number " + strconv.Itoa(int(kind))
	}
	return words
}

// saysOfTexts is for layers 1 to 7, from bytes to texts of types; nothing for other kinds.
func saysOfTexts(kind api.Errno) string {
	switch kind {
	case api.OK:
		return "right"
	case api.ErrByte:
		return "a byte that no source has"
	case api.ErrPlace:
		return "a place that isn't there"
	case api.ErrToken:
		return "no token begins so"
	case api.ErrOpen:
		return "a comment that isn't closed"
	case api.ErrBig:
		return "a number that is too great"
	case api.ErrShape:
		return "a node that may not be"
	case api.ErrDeep:
		return "too deep"
	case api.ErrMany:
		return "too many"
	case api.ErrWant:
		return "another token is wanted"
	case api.ErrRest:
		return "something is left over"
	case api.ErrTemplate:
		return "no such template"
	case api.ErrCount:
		return "another number of arguments is wanted"
	case api.ErrLoop:
		return "more instances than may be"
	case api.ErrPlain:
		return "a type argument that holds references"
	case api.ErrText:
		return "a text that is no type's"
	}
	return ""
}

// saysOfTypes is for layers 8 to 13, from declarations to layouts; nothing for other kinds.
func saysOfTypes(kind api.Errno) string {
	switch kind {
	case api.ErrTwice:
		return "a name that is there already"
	case api.ErrType:
		return "no such type"
	case api.ErrRegion:
		return "no such region, or another number of them"
	case api.ErrSize:
		return "a type that holds itself"
	case api.ErrCopy:
		return "a copy type whose parts can't be copied"
	case api.ErrElide:
		return "a result's region that can't be told"
	case api.ErrFn:
		return "no such function"
	case api.ErrName:
		return "no such name"
	case api.ErrLabel:
		return "no such loop"
	case api.ErrMatch:
		return "another type is wanted"
	case api.ErrNot:
		return "it can't be done with a value of that type"
	case api.ErrField:
		return "no such field, or not all of them"
	case api.ErrAssign:
		return "nothing to which something can be assigned"
	case api.ErrMut:
		return "it isn't mutable"
	case api.ErrGap:
		return "a value that no pattern takes"
	case api.ErrUseless:
		return "a pattern that takes nothing more"
	case api.ErrWide:
		return "a value of more than MaxWords words"
	}
	return ""
}

// saysOfBlocks is for layers 14 to 29, from bodies to why one isn't taken; nothing for other kinds.
func saysOfBlocks(kind api.Errno) string {
	switch kind {
	case api.ErrBody:
		return "a body that may not be"
	case api.ErrMir:
		return "a statement or an end that may not be"
	case api.ErrMove:
		return "a move out of what is behind a pointer, or a copy of what can't be copied"
	case api.ErrShared:
		return "a write, or a unique borrow, through a shared reference"
	case api.ErrForm:
		return "a text that is none"
	case api.ErrLarge:
		return "a function that comes to more than may be"
	case api.ErrUnset:
		return "something that may not be set is used"
	case api.ErrSet:
		return "something that may be set is set as if it weren't"
	case api.ErrLeft:
		return "something that needs a drop may be left over"
	case api.ErrFixed:
		return "something that isn't mutable may be set again"
	case api.ErrLives:
		return "a region that must outlive another one, and isn't said to"
	case api.ErrLoan:
		return "it is borrowed"
	case api.ErrCert:
		return "a certificate that doesn't hold"
	case api.ErrWhy:
		return "a path that shows nothing"
	}
	return ""
}

// saysOfRuns is for layers 30 to 41, from the heap to lines; nothing for other kinds.
func saysOfRuns(kind api.Errno) string {
	switch kind {
	case api.ErrFreed:
		return "a touch of what is freed"
	case api.ErrAgain:
		return "it is freed already"
	case api.ErrWild:
		return "a touch of what never was"
	case api.ErrRoom:
		return "no room"
	case api.ErrCode:
		return "a program that may not be"
	case api.ErrHalt:
		return "it has stopped already"
	case api.ErrImage:
		return "bytes that are no program's"
	case api.ErrRun:
		return "nothing to be run"
	case api.ErrLine:
		return "a line that is none"
	}
	return ""
}
