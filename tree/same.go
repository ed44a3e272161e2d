package tree

import (
	"slices"

	"cocoon/api"
	"cocoon/types"
)

func sameStruct(a, b api.Struct) bool {
	return a.Name == b.Name && a.Drop == b.Drop && slices.EqualFunc(a.Fields, b.Fields, sameField)
}

func sameEnum(a, b api.Enum) bool {
	return a.Name == b.Name && slices.EqualFunc(a.Variants, b.Variants, sameVariant)
}

func sameFn(a, b api.Fn) bool {
	return a.Name == b.Name && slices.EqualFunc(a.Params, b.Params, sameField) && sameRow(a.Body, b.Body)
}

func sameField(a, b api.Field) bool {
	return a.Name == b.Name && types.Same(a.Ty, b.Ty)
}

func sameVariant(a, b api.Variant) bool {
	return a.Name == b.Name && types.Same(a.Ty, b.Ty)
}

func samePlace(a, b api.Place) bool {
	return a.Name == b.Name && slices.Equal(a.Path, b.Path)
}

func sameOper(a, b api.Oper) bool {
	return a.Num == b.Num && a.N == b.N && samePlace(a.P, b.P)
}

func sameSet(a, b api.Rv) bool {
	return a.K == b.K && a.Name == b.Name && a.Variant == b.Variant &&
		samePlace(a.P, b.P) && slices.EqualFunc(a.Ops, b.Ops, sameOper)
}

func sameRow(a, b []api.Stmt) bool {
	return slices.EqualFunc(a, b, sameStmt)
}

// sameStmt looks at all fields, those that the kind has no use for too; but not at where it stands.
func sameStmt(a, b api.Stmt) bool {
	return a.K == b.K && a.Name == b.Name && types.Same(a.Ty, b.Ty) &&
		samePlace(a.P, b.P) && sameSet(a.Rv, b.Rv) && sameOper(a.Op, b.Op) &&
		sameRow(a.Then, b.Then) && sameRow(a.Else, b.Else) && slices.EqualFunc(a.Arms, b.Arms, sameArm)
}

func sameArm(a, b api.Arm) bool {
	return a.Variant == b.Variant && a.Bind == b.Bind && sameRow(a.Body, b.Body)
}
