package tree

import "borrowdale/api"

// Sorts of Kids, beside the Kinds, each of which is a sort of its own (None: no Kid may stand there).
const (
	item       = 100
	aType      = 101
	typeOrNone = 102
	statement  = 103
	expr       = 104
	exprOrNone = 105
	otherwise  = 106 // what stands behind else
	pattern    = 107
)

// kids is which Kids a Kind asks: one of each sort of first, then any number of rest, and then one of last.
type kids struct {
	first []int
	rest  int
	last  int
}

// kidsOf is which Kids a Kind asks.
func kidsOf(kind int) kids {
	switch {
	case isOne(kind, Type):
		return typesKids(kind)
	case isOne(kind, Expr):
		return exprsKids(kind)
	}
	switch kind {
	case api.Program:
		return kids{rest: item}
	case api.Struct:
		return kids{first: []int{api.Names, api.Names}, rest: api.FieldDecl}
	case api.Choice:
		return kids{first: []int{api.Names, api.Names}, rest: api.CaseDecl}
	case api.Fn:
		return kids{first: []int{api.Names, api.Names, api.Args, typeOrNone, api.Wheres, api.Block}}
	case api.Names:
		return kids{rest: api.Name}
	case api.Args:
		return kids{rest: api.Arg}
	case api.Wheres:
		return kids{rest: api.Where}
	case api.Where:
		return kids{first: []int{api.Name}}
	case api.Arg, api.FieldDecl:
		return kids{first: []int{aType}}
	case api.CaseDecl, api.TArgs:
		return kids{rest: aType}
	case api.Let:
		return kids{first: []int{typeOrNone, exprOrNone}}
	case api.Eval, api.Init:
		return kids{first: []int{expr}}
	case api.Arm:
		return kids{first: []int{pattern, expr}}
	case api.PCase:
		return kids{rest: pattern}
	}
	return kids{}
}

// typesKids is which Kids a type asks.
func typesKids(kind int) kids {
	switch kind {
	case api.TName:
		return kids{first: []int{api.Names}, rest: aType}
	case api.TRef, api.TBox, api.TVec:
		return kids{first: []int{aType}}
	}
	return kids{}
}

// exprsKids is which Kids an expression asks.
func exprsKids(kind int) kids {
	switch kind {
	case api.Unary, api.Borrow, api.Deref, api.Field:
		return kids{first: []int{expr}}
	case api.Binary, api.Assign:
		return kids{first: []int{expr, expr}}
	case api.Call, api.Case:
		return kids{first: []int{api.TArgs}, rest: expr}
	case api.Build:
		return kids{first: []int{api.TArgs}, rest: api.Init}
	case api.If:
		return kids{first: []int{expr, api.Block, otherwise}}
	case api.While:
		return kids{first: []int{expr, api.Block}}
	case api.Loop:
		return kids{first: []int{api.Block}}
	case api.Break, api.Return:
		return kids{first: []int{exprOrNone}}
	case api.Block:
		return kids{rest: statement, last: exprOrNone}
	case api.Match:
		return kids{first: []int{expr}, rest: api.Arm}
	}
	return kids{}
}

// fit is whether the Kinds of a node's Kids are those that are asked.
func (k kids) fit(l []api.Node) bool {
	behind := len(l)
	if k.last != api.None {
		behind--
	}
	if behind < len(k.first) {
		return false
	}
	for i, kid := range l {
		sort := k.rest
		if i < len(k.first) {
			sort = k.first[i]
		} else if i == behind {
			sort = k.last
		}
		if !isOf(kid.Kind, sort) {
			return false
		}
	}
	return true
}

// isOf is whether a Kind is of a sort.
func isOf(kind, sort int) bool {
	switch sort {
	case api.None:
		return false
	case item:
		return isOne(kind, Item)
	case aType:
		return isOne(kind, Type)
	case typeOrNone:
		return kind == api.None || isOne(kind, Type)
	case statement:
		return isOne(kind, Statement)
	case expr:
		return isOne(kind, Expr)
	case exprOrNone:
		return kind == api.None || isOne(kind, Expr)
	case otherwise:
		return kind == api.None || kind == api.If || kind == api.Block
	case pattern:
		return isOne(kind, Pattern)
	}
	return kind == sort
}

// isOne is whether a Kind is of a class.
func isOne(kind, class int) bool {
	switch class {
	case Item:
		return kind == api.Struct || kind == api.Choice || kind == api.Fn
	case Type:
		return api.TInt <= kind && kind <= api.TVec
	case Statement:
		return kind == api.Let || kind == api.Eval
	case Expr:
		inner := kind == api.TArgs || kind == api.Init || kind == api.Arm
		return kind == api.Name || api.Int <= kind && kind <= api.Assign && !inner
	case Pattern:
		return api.PAny <= kind && kind <= api.PCase
	}
	return false
}
