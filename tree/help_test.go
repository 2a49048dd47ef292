package tree_test

import (
	"fmt"
	"math"
	"math/rand"
	"reflect"

	"padlock/api"
)

// kinds: those of all that has one, and some that there aren't.
var kinds = []int{api.Lit, api.LitReal, api.Nobody, api.Input, api.Var, api.Neg, api.ToReal, api.Trunc, api.Binary, api.Atomic, api.Call, 0, -1, 12, 99, math.MaxInt, math.MinInt}

// fill: every field of what v is, all rows included, gets a value of its own; rows of rows go so deep.
func fill(v reflect.Value, next *int, deep int) {
	*next++
	switch v.Kind() {
	case reflect.Int:
		v.SetInt(int64(*next))
	case reflect.Uint64:
		v.SetUint(uint64(*next))
	case reflect.String:
		v.SetString(fmt.Sprint("n", *next))
	case reflect.Struct:
		for i := range v.NumField() {
			fill(v.Field(i), next, deep)
		}
	case reflect.Slice:
		if deep > 0 {
			v.Set(reflect.MakeSlice(v.Type(), 2, 2))
			fill(v.Index(0), next, deep-1)
			fill(v.Index(1), next, deep-1)
		}
	default:
		panic(v.Kind())
	}
}

// full: a value in which everything is there, each thing unlike all others; the same one at every call.
func full[T any](deep int) T {
	var out T
	next := 100
	fill(reflect.ValueOf(&out).Elem(), &next, deep)
	return out
}

// part: something that v has: a number or a text, or a row; and whether it tells a place.
type part struct {
	path  string
	value reflect.Value
	place bool
}

// parts: all that v has, in one order for all values of one form.
func parts(v reflect.Value, path string, place bool) []part {
	switch v.Kind() {
	case reflect.Struct:
		var out []part
		for i := range v.NumField() {
			name := v.Type().Field(i).Name
			out = append(out, parts(v.Field(i), path+"."+name, name == "Line" || name == "Col")...)
		}
		return out
	case reflect.Slice:
		out := []part{{path: path, value: v}}
		for i := range v.Len() {
			out = append(out, parts(v.Index(i), fmt.Sprintf("%s[%d]", path, i), false)...)
		}
		return out
	}
	return []part{{path: path, value: v, place: place}}
}

func partsOf[T any](v *T) []part { return parts(reflect.ValueOf(v).Elem(), "", false) }

// change: a way in which a part is made another one; to one without it the part is left, and it answers false.
type change struct {
	name string
	do   func(v reflect.Value) bool
}

var changes = []change{
	{"other", func(v reflect.Value) bool {
		switch v.Kind() {
		case reflect.Int:
			v.SetInt(v.Int() + 1)
		case reflect.Uint64:
			v.SetUint(v.Uint() ^ 1<<63)
		case reflect.String:
			v.SetString(v.String() + "x")
		}
		return v.Kind() != reflect.Slice
	}},
	{"zero", func(v reflect.Value) bool {
		was := v.IsZero() || v.Kind() == reflect.Slice && v.Len() == 0
		v.SetZero()
		return !was
	}},
	{"cut", func(v reflect.Value) bool {
		if v.Kind() != reflect.Slice || v.Len() == 0 {
			return false
		}
		v.Set(v.Slice(0, v.Len()-1))
		return true
	}},
	{"beheaded", func(v reflect.Value) bool {
		if v.Kind() != reflect.Slice || v.Len() == 0 {
			return false
		}
		v.Set(v.Slice(1, v.Len()))
		return true
	}},
	{"one more", func(v reflect.Value) bool {
		if v.Kind() != reflect.Slice {
			return false
		}
		v.Set(reflect.Append(v, reflect.Zero(v.Type().Elem())))
		return true
	}},
	{"the last twice", func(v reflect.Value) bool {
		if v.Kind() != reflect.Slice || v.Len() == 0 {
			return false
		}
		v.Set(reflect.Append(v, v.Index(v.Len()-1)))
		return true
	}},
	{"another order", func(v reflect.Value) bool {
		if v.Kind() != reflect.Slice || v.Len() < 2 {
			return false
		}
		reflect.Swapper(v.Interface())(0, 1)
		return true
	}},
}

// keep: what brings a part, that is then changed, back to what it is now.
func keep(v reflect.Value) func() {
	was := reflect.New(v.Type()).Elem()
	was.Set(v)
	if v.Kind() != reflect.Slice {
		return func() { v.Set(was) }
	}
	elements := reflect.MakeSlice(v.Type(), v.Len(), v.Len())
	reflect.Copy(elements, v)
	return func() {
		v.Set(was)
		reflect.Copy(v, elements)
	}
}

// deepCopy: a value of its own; bare: without places, and with nil for a row of none.
func deepCopy(v reflect.Value, bare bool) reflect.Value {
	out := reflect.New(v.Type()).Elem()
	switch v.Kind() {
	case reflect.Struct:
		for i := range v.NumField() {
			if name := v.Type().Field(i).Name; !bare || name != "Line" && name != "Col" {
				out.Field(i).Set(deepCopy(v.Field(i), bare))
			}
		}
	case reflect.Slice:
		if !v.IsNil() && (!bare || v.Len() > 0) {
			out.Set(reflect.MakeSlice(v.Type(), v.Len(), v.Len()))
			for i := range v.Len() {
				out.Index(i).Set(deepCopy(v.Index(i), bare))
			}
		}
	default:
		out.Set(v)
	}
	return out
}

func copyOf[T any](v T) T { return deepCopy(reflect.ValueOf(&v).Elem(), false).Interface().(T) }
func bareOf[T any](v T) T { return deepCopy(reflect.ValueOf(&v).Elem(), true).Interface().(T) }

// alike: whether two values are the same but for places, by their form alone.
func alike[T any](a, b T) bool { return reflect.DeepEqual(bareOf(a), bareOf(b)) }

// maker makes what is told by chance, of so few values that two are often the same.
type maker struct{ *rand.Rand }

func newMaker(seed int64) maker { return maker{rand.New(rand.NewSource(seed))} }

func (m maker) name() string { return []string{"", "a", "b"}[m.Intn(3)] }

func (m maker) types() api.Type { return api.Type{Kind: m.Intn(2), Rec: m.name()} }

func (m maker) expr(deep int) api.Expr {
	return api.Expr{Op: m.Intn(2), Bin: m.Intn(2), N: uint64(m.Intn(2)), Type: m.types(), Name: m.name(), Kids: m.exprs(deep - 1), Line: m.Int(), Col: m.Int()}
}

func (m maker) exprs(deep int) []api.Expr {
	return row(m, deep, func() api.Expr { return m.expr(deep) })
}

func (m maker) place(deep int) api.Place {
	return api.Place{Op: m.Intn(2), Base: m.name(), Field: m.name(), Index: m.expr(deep), Line: m.Int(), Col: m.Int()}
}

func (m maker) stmt(deep int) api.Stmt {
	right := api.Right{Op: m.Intn(2), E: m.expr(deep), Place: m.place(deep), Name: m.name(), Line: m.Int(), Col: m.Int()}
	return api.Stmt{Op: m.Intn(15) - 1, Name: m.name(), Right: right, Place: m.place(deep), E: m.expr(deep), N: m.Intn(2), Args: m.exprs(deep - 1), Body: m.stmts(deep - 1), Else: m.stmts(deep - 1), Line: m.Int(), Col: m.Int()}
}

func (m maker) stmts(deep int) []api.Stmt {
	return row(m, deep, func() api.Stmt { return m.stmt(deep) })
}

func (m maker) named() api.Named {
	return api.Named{Name: m.name(), Type: m.types(), Line: m.Int(), Col: m.Int()}
}

func (m maker) program(deep int) api.Program {
	return api.Program{
		Records: row(m, deep, func() api.Record {
			return api.Record{Name: m.name(), Fields: row(m, deep, m.named), Line: m.Int(), Col: m.Int()}
		}),
		Globals: row(m, deep, m.named),
		Funs: row(m, deep, func() api.Fun {
			return api.Fun{Name: m.name(), Params: row(m, deep, m.named), Body: m.stmts(deep), Line: m.Int(), Col: m.Int()}
		}),
		Threads: row(m, deep, func() api.Thread { return api.Thread{Body: m.stmts(deep), Line: m.Int(), Col: m.Int()} }),
	}
}

// row: up to three of such, one being nil and another one empty now and then; none, if it would be too deep.
func row[T any](m maker, deep int, one func() T) []T {
	if deep < 0 || m.Intn(6) == 0 {
		return nil
	}
	out := []T{}
	for range m.Intn(4) {
		out = append(out, one())
	}
	return out
}

// chain: so many statements, each within the one ahead of it, by its Body and by its Else in turn; the deepest one is told.
func chain(deep int, deepest api.Stmt) []api.Stmt {
	list := []api.Stmt{deepest}
	for i := range deep - 1 {
		s := api.Stmt{Op: api.If, Body: list}
		if i%2 == 0 {
			s = api.Stmt{Op: api.If, Else: list}
		}
		list = []api.Stmt{s}
	}
	return list
}
