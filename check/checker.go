package check

import (
	"slices"

	"padlock/api"
)

// givenUp is what checking panics with, and nothing else does.
type givenUp api.Fault

// spot is where in the text something stands.
type spot struct{ line, col int }

// local is a parameter, or what a Let or a VarStmt named.
type local struct {
	name string
	kind api.Type
	ever bool // no Assign gives it another value
}

// checker has the program, and what is seen at the statement that it is at.
type checker struct {
	program api.Program
	reach   map[string]struct{} // the functions that reach what is shared
	locals  []local
	labels  []string // of the loops around, up to the next Atomic; empty ones of loops without
	outside bool     // it is in a thread, outside all Atomics
}

// need gives up, however deep it is, unless something holds; Program catches it.
func need(holds bool, err api.Errno, at spot) {
	if !holds {
		panic(givenUp{Err: err, Line: at.line, Col: at.col})
	}
}

// known refuses the type of a record that there isn't.
func (c *checker) known(t api.Type, at spot) {
	if t.Kind == api.Ref {
		c.knownRecord(t.Rec, at)
	}
}

func (c *checker) knownRecord(name string, at spot) {
	_, ok := recordOf(c.program.Records, name)
	need(ok, api.ErrName, at)
}

// seen answers the local of a name, and refuses one that isn't seen.
func (c *checker) seen(name string, at spot) local {
	l, ok := c.local(name)
	need(ok, api.ErrName, at)
	return l
}

func (c *checker) local(name string) (local, bool) {
	return one(c.locals, func(l local) bool { return l.name == name })
}

func recordOf(list []api.Record, name string) (api.Record, bool) {
	return one(list, func(r api.Record) bool { return r.Name == name })
}

func namedOf(list []api.Named, name string) (api.Named, bool) {
	return one(list, func(n api.Named) bool { return n.Name == name })
}

func funOf(list []api.Fun, name string) (api.Fun, bool) {
	return one(list, func(f api.Fun) bool { return f.Name == name })
}

// one answers the first of a list that is meant; not ok: none is.
func one[T any](list []T, meant func(T) bool) (T, bool) {
	i := slices.IndexFunc(list, meant)
	if i < 0 {
		var none T
		return none, false
	}
	return list[i], true
}
