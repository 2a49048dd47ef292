package path_test

import (
	"math"
	"reflect"

	"padlock/api"
)

// copied: a code with new lists.
func copied(c api.Code) api.Code {
	v := reflect.ValueOf(&c).Elem()
	renew(v, 0)
	return c
}

// roomy gives each list new memory, with some spare room.
func roomy(v reflect.Value) { renew(v, 3) }

func renew(v reflect.Value, room int) {
	switch v.Kind() {
	case reflect.Struct:
		for i := range v.NumField() {
			renew(v.Field(i), room)
		}
	case reflect.Slice:
		wide := reflect.MakeSlice(v.Type(), v.Len(), v.Len()+room)
		reflect.Copy(wide, v)
		v.Set(wide)
		for i := range v.Len() {
			renew(v.Index(i), room)
		}
	}
}

// numbersOf: all numbers of a value, those in spare room included, in their order.
func numbersOf(v reflect.Value) []any {
	var out []any
	switch v.Kind() {
	case reflect.Struct:
		for i := range v.NumField() {
			out = append(out, numbersOf(v.Field(i))...)
		}
	case reflect.Slice:
		out = append(out, v.Len())
		all := v.Slice(0, v.Cap())
		for i := range all.Len() {
			out = append(out, numbersOf(all.Index(i))...)
		}
	default:
		out = append(out, v.Interface())
	}
	return out
}

// gather collects all lists that have room.
func gather(v reflect.Value, to *[]reflect.Value) {
	switch v.Kind() {
	case reflect.Struct:
		for i := range v.NumField() {
			gather(v.Field(i), to)
		}
	case reflect.Slice:
		if v.Cap() > 0 {
			*to = append(*to, v)
		}
		for i := range v.Len() {
			gather(v.Index(i), to)
		}
	}
}

// ends: where the memory of a list ends.
func ends(v reflect.Value) uintptr {
	return v.Pointer() + uintptr(v.Cap())*v.Type().Elem().Size()
}

// scribble writes into all numbers.
func scribble(v reflect.Value) {
	switch v.Kind() {
	case reflect.Int:
		v.SetInt(v.Int() + 77)
	case reflect.Uint64:
		v.SetUint(v.Uint() + 77)
	case reflect.Struct:
		for i := range v.NumField() {
			scribble(v.Field(i))
		}
	case reflect.Slice:
		for i := range v.Len() {
			scribble(v.Index(i))
		}
	}
}

// number: a small one, mostly.
func (m *maker) number() int {
	switch m.Intn(40) {
	case 0:
		return int(m.Uint64())
	case 1:
		return pick(m, []int{math.MinInt, math.MaxInt, 63, 64, 65, 1 << 32})
	}
	return m.Intn(20) - 2
}

// scrawl fills whatever it is given with numbers, and lists of a few parts.
func scrawl(m *maker, v reflect.Value) {
	switch v.Kind() {
	case reflect.Struct:
		for i := range v.NumField() {
			scrawl(m, v.Field(i))
		}
	case reflect.Slice:
		n := m.Intn(4)
		v.Set(reflect.MakeSlice(v.Type(), n, n))
		for i := range n {
			scrawl(m, v.Index(i))
		}
	case reflect.Int:
		v.SetInt(int64(m.number()))
	case reflect.Uint64:
		v.SetUint(uint64(m.number()))
	case reflect.Bool:
		v.SetBool(m.Intn(2) == 0)
	}
}

// spoil changes one number of a value, or one row's length, by chance.
func (m *maker) spoil(v reflect.Value) {
	switch v.Kind() {
	case reflect.Struct:
		m.spoil(v.Field(m.Intn(v.NumField())))
	case reflect.Slice:
		if v.Len() == 0 {
			return
		}
		if at := m.Intn(v.Len()); m.Intn(6) > 0 {
			m.spoil(v.Index(at))
		} else {
			v.Set(v.Slice(0, at))
		}
	case reflect.Int, reflect.Uint64, reflect.Bool:
		scrawl(m, v)
	}
}
