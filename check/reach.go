package check

import (
	"slices"

	"padlock/api"
)

// reaching answers the functions that reach what is shared. Calls lead to functions that stand ahead and behind, so it goes over all of them until no more are found.
func reaching(funs []api.Fun) map[string]struct{} {
	reach := make(map[string]struct{})
	for before := -1; before < len(reach); {
		before = len(reach)
		for _, f := range funs {
			if touches(f.Body, reach) {
				reach[f.Name] = struct{}{}
			}
		}
	}
	return reach
}

// touches answers whether one of the statements, or of those within them, is shared outside all Atomics, as far as the functions that reach it are known.
func touches(list []api.Stmt, reach map[string]struct{}) bool {
	return slices.ContainsFunc(list, func(s api.Stmt) bool {
		return s.Op != api.Atomic && (isShared(s, reach) || touches(s.Body, reach) || touches(s.Else, reach))
	})
}

// isShared answers whether a statement itself is shared, or a Call of a function that reaches it.
func isShared(s api.Stmt, reach map[string]struct{}) bool {
	switch s.Op {
	case api.Set:
		return true
	case api.Let, api.VarStmt, api.Assign:
		return s.Right.Op == api.Load || s.Right.Op == api.New || s.Right.Op == api.NewInts
	case api.Call:
		_, ok := reach[s.Name]
		return ok
	}
	return false
}
