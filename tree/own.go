package tree

import (
	"slices"

	"padlock/api"
)

// ownStmts answers the row in memory of its own, all that stands within included.
func ownStmts(list []api.Stmt) []api.Stmt {
	return ownRow(list, ownParts)
}

// ownRow answers a copy of a row, in which each element was given parts of its own.
func ownRow[T any](list []T, own func(*T)) []T {
	out := slices.Clone(list)
	for i := range out {
		own(&out[i])
	}
	return out
}

// ownParts gives a statement's copy rows of its own, for those that it shares with the one it was copied from.
func ownParts(s *api.Stmt) {
	ownKids(&s.Right.E)
	ownKids(&s.Right.Place.Index)
	ownKids(&s.Place.Index)
	ownKids(&s.E)
	s.Args = ownRow(s.Args, ownKids)
	s.Body = ownStmts(s.Body)
	s.Else = ownStmts(s.Else)
}

// ownKids is what ownParts is, of an expression.
func ownKids(e *api.Expr) {
	e.Kids = ownRow(e.Kids, ownKids)
}
