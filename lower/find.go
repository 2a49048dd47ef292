package lower

import (
	"slices"

	"padlock/api"
)

func recordOf(list []api.Record, name string) (int, api.Record) {
	return find(list, func(r api.Record) bool { return r.Name == name })
}

func namedOf(list []api.Named, name string) (int, api.Named) {
	return find(list, func(n api.Named) bool { return n.Name == name })
}

func funOf(list []api.Fun, name string) api.Fun {
	_, f := find(list, func(f api.Fun) bool { return f.Name == name })
	return f
}

// find answers the place of the first of a list that is meant, and it. There is one, in a program with which nothing is wrong; in others it answers something of no meaning rather than panic.
func find[T any](list []T, meant func(T) bool) (int, T) {
	at := slices.IndexFunc(list, meant)
	if at < 0 {
		var none T
		return at, none
	}
	return at, list[at]
}
