package tree

import (
	"math"

	"cocoon/api"
	"cocoon/lexis"
	"cocoon/types"
)

// all tells whether each thing of a list is valid.
func all[T any](things []T, valid func(T) bool) bool {
	for _, x := range things {
		if !valid(x) {
			return false
		}
	}
	return true
}

// free tells whether a text is a name that is not the language's own.
func free(s string) bool { return lexis.Word(s) && !lexis.Reserved(s) }

func small(s string) bool { return free(s) && !lexis.Upper(s) }

func great(s string) bool { return free(s) && lexis.Upper(s) }

func validStruct(s api.Struct) bool {
	return great(s.Name) && all(s.Fields, validField)
}

func validEnum(e api.Enum) bool {
	return great(e.Name) && all(e.Variants, validVariant)
}

func validFn(f api.Fn) bool {
	return small(f.Name) && all(f.Params, validField) && validRow(f.Body, 1)
}

func validField(f api.Field) bool {
	return small(f.Name) && validType(f.Ty)
}

func validVariant(v api.Variant) bool {
	return great(v.Name) && (types.Same(v.Ty, api.Ty{}) || validType(v.Ty))
}

func validType(t api.Ty) bool {
	for deep := 0; around(t.K) != ""; deep++ {
		if deep == api.MaxDeep || t.Name != "" || len(t.L) != 1 {
			return false
		}
		t = t.L[0]
	}
	return validInnermost(t)
}

func validInnermost(t api.Ty) bool {
	if len(t.L) > 0 {
		return false
	}
	switch t.K {
	case api.TyInt:
		return t.Name == ""
	case api.TyStruct: // a text does not tell an enum from a struct, so nothing is read as a TyEnum
		return great(t.Name)
	case api.TyCo:
		return small(t.Name)
	}
	return false
}

func validPlace(p api.Place) bool {
	return small(p.Name) && all(p.Path, validStep)
}

func validStep(x api.Step) bool { return x.Field == "" || small(x.Field) }

// alone tells whether a place is a name without steps.
func alone(p api.Place) bool { return small(p.Name) && len(p.Path) == 0 }

func noPlace(p api.Place) bool { return samePlace(p, api.Place{}) }

func validOper(o api.Oper) bool {
	if o.Num {
		return o.N != math.MinInt && noPlace(o.P)
	}
	return o.N == 0 && validPlace(o.P)
}

func validSet(v api.Rv) bool {
	return validNames(v) && validPlaceOf(v) && all(v.Ops, validOper) && validCount(v.K, len(v.Ops))
}

// validNames tells whether what is set has the names that its kind shows, and no others.
func validNames(v api.Rv) bool {
	switch v.K {
	case api.RvMake:
		return great(v.Name) && v.Variant == ""
	case api.RvVariant:
		return great(v.Name) && great(v.Variant)
	case api.RvStart:
		return small(v.Name) && v.Variant == ""
	}
	return v.Name == "" && v.Variant == ""
}

// validPlaceOf tells likewise of the place.
func validPlaceOf(v api.Rv) bool {
	switch v.K {
	case api.RvRef, api.RvMut:
		return validPlace(v.P)
	case api.RvUnbox, api.RvAwait, api.RvPoll:
		return alone(v.P)
	}
	return noPlace(v.P)
}

// validCount tells whether what is set may have so many operands; a kind that is none may have no count of them.
func validCount(k api.RvKind, n int) bool {
	switch k {
	case api.RvUse, api.RvBox, api.RvWait:
		return n == 1
	case api.RvAdd, api.RvSub, api.RvMul, api.RvLess, api.RvSame:
		return n == 2
	case api.RvRef, api.RvMut, api.RvUnbox, api.RvAwait, api.RvPoll:
		return n == 0
	case api.RvVariant:
		return n <= 1
	case api.RvMake, api.RvStart:
		return true
	}
	return false
}

// validRow tells whether the statements of a block could have been read, where the block is so deep.
func validRow(body []api.Stmt, deep int) bool {
	return deep <= api.MaxDeep && all(body, func(s api.Stmt) bool { return validStmt(s, deep) })
}

// validStmt tells whether a statement has what its kind shows, and nothing in the rest of its fields.
func validStmt(s api.Stmt, deep int) bool {
	rest, valid := s, false
	switch s.K {
	case api.StLet:
		valid = small(s.Name) && validType(s.Ty) && validSet(s.Rv)
		rest.Name, rest.Ty, rest.Rv = "", api.Ty{}, api.Rv{}
	case api.StSet:
		valid = validPlace(s.P) && validSet(s.Rv)
		rest.P, rest.Rv = api.Place{}, api.Rv{}
	case api.StIf:
		valid = validOper(s.Op) && validRow(s.Then, deep+1) && validRow(s.Else, deep+1)
		rest.Op, rest.Then, rest.Else = api.Oper{}, nil, nil
	case api.StWhile:
		valid = validOper(s.Op) && validRow(s.Then, deep+1)
		rest.Op, rest.Then = api.Oper{}, nil
	case api.StMatch:
		valid = alone(s.P) && all(s.Arms, func(a api.Arm) bool { return validArm(a, deep+1) })
		rest.P, rest.Arms = api.Place{}, nil
	case api.StYield, api.StReturn, api.StPrint:
		valid = validOper(s.Op)
		rest.Op = api.Oper{}
	case api.StDrop:
		valid = alone(s.P)
		rest.P = api.Place{}
	}
	return valid && sameStmt(rest, api.Stmt{K: s.K})
}

func validArm(a api.Arm, deep int) bool {
	return great(a.Variant) && (a.Bind == "" || small(a.Bind)) && validRow(a.Body, deep)
}
