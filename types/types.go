// Package types has what several layers ask of types as they stand, whatever is declared.
package types

import (
	"slices"

	"cocoon/api"
)

// Same tells whether two types are the same in all; lists without things are alike.
func Same(a, b api.Ty) bool {
	return a.K == b.K && a.Name == b.Name && slices.EqualFunc(a.L, b.L, Same)
}

// Copied is a type in lists of its own, at any depth.
func Copied(t api.Ty) api.Ty {
	t.L = slices.Clone(t.L)
	for i := range t.L {
		t.L[i] = Copied(t.L[i])
	}
	return t
}
