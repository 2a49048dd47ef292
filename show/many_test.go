package show_test

import (
	"math/rand"
	"reflect"
	"slices"
	"strings"
	"testing"

	"padlock/api"
	"padlock/lex"
	"padlock/parse"
	"padlock/show"
	"padlock/tree"
)

// P6.1: programs made by chance, of any names and numbers, told in another way.
func TestManyMade(t *testing.T) {
	r := rand.New(rand.NewSource(1))
	for range 1200 {
		for _, m := range []maker{parseable(r), wild(r)} {
			p := m.program()
			if got, wanted := show.Program(p), textOf(p); got != wanted {
				t.Fatalf("%q, not %q", got, wanted)
			}
			e := m.expr(6)
			if got, wanted := show.Expr(e), plainly.any(e); got != wanted {
				t.Fatalf("%q, not %q", got, wanted)
			}
			kind := m.types()
			want(t, show.Type(kind), plainly.types(kind))
		}
	}
}

// shownAgain: that a text that Parse answers a program of is shown as one that is parsed to the same; and the program. Not ok: it answers none, or the text is too long.
func shownAgain(t *testing.T, text string) (api.Program, bool) {
	t.Helper()
	p, fault := parse.Parse(text)
	if fault.Err != api.OK {
		return p, false
	}
	plain := show.Program(p)
	want(t, plain, textOf(p))
	if len(plain) > api.MaxText {
		return p, false
	}
	q := parsed(t, plain)
	if !tree.Same(p, q) {
		t.Fatalf("%q: %q: parsed to another program", text, plain)
	}
	want(t, show.Program(q), plain)
	return p, true
}

// P6.2: many texts, parsed, shown, and parsed again; and texts of one program that differ in places, brackets and the order of kinds alone have one text.
func TestManyTexts(t *testing.T) {
	m := parseable(rand.New(rand.NewSource(2)))
	shown := 0
	for range 3000 {
		made := m.program()
		first, ok := looseOf(m.Rand, made)
		second, ok2 := looseOf(m.Rand, made)
		if !ok || !ok2 {
			continue
		}
		p, ok := shownAgain(t, first)
		q, ok2 := shownAgain(t, second)
		if !ok || !ok2 {
			continue
		}
		shown++
		if !tree.Same(p, made) {
			t.Fatalf("%q: parsed to another program", first)
		}
		if want(t, show.Program(p), show.Program(q)); t.Failed() {
			return
		}
	}
	if shown < 2000 {
		t.Errorf("only %d", shown)
	}
}

// onePerText: that two programs have one text just if they are the same.
func onePerText(t *testing.T, p, q api.Program) bool {
	t.Helper()
	same := tree.Same(p, q)
	if a, b := show.Program(p), show.Program(q); (a == b) != same {
		t.Fatalf("same: %v; %q, %q", same, a, b)
	}
	return same
}

// others: tokens that may stand for another one.
var others = append(strings.Fields("record global fun thread let var set print if else loop break continue atomic call load new size int real ints nil input trunc x y R 0 1 101 #7ff8000000000000 #0000000000000000"),
	strings.Fields("== != <= { } ( ) [ ] ; : , . = < + - * / %")...)

// full: a text in which each rule of layer 5 stands.
const full = `record R { a: int; b: R; } record S { } global g: real; global h: ints;
fun f(a: int, b: R) { x = load g; } fun k() { }
thread { let a = load x.f; var b = new R; c = new ints 1 - 2 - 3; d = size x; e = x * (1 + 2) % 3;
set g = -x; set x.f = real trunc x; set y[1 < 2] = nil R; print (nil ints == x) + input 1; if 1 { print 2; } else { print 3; }
if 1 { } atomic { break; } l: loop 3 { break l; continue; continue l; } loop 4 { } call f(1, x - (y - 1), #8000000000000000); call k(); }
thread { }`

// textsOf: the tokens' letters, but for the End.
func textsOf(t *testing.T, text string) []string {
	t.Helper()
	tokens, fault := lex.Lex(text)
	if fault.Err != api.OK {
		t.Fatal(fault)
	}
	var out []string
	for _, one := range tokens[:len(tokens)-1] {
		out = append(out, one.Text)
	}
	return out
}

// P6.2: a text in which one token is another one, is left out, or stands twice: a program of it is another one just if its text is.
func TestOneTokenDiffers(t *testing.T) {
	tokens := textsOf(t, full)
	p, ok := shownAgain(t, full)
	if !ok {
		t.Fatal("the text itself is no program")
	}
	same, other := 0, 0
	check := func(changed []string) {
		if q, ok := shownAgain(t, strings.Join(changed, " ")); ok {
			if onePerText(t, p, q) {
				same++
			} else {
				other++
			}
		}
	}
	for at := range tokens {
		for _, o := range others {
			check(slices.Replace(slices.Clone(tokens), at, at+1, o))
			check(slices.Insert(slices.Clone(tokens), at, o))
		}
		check(slices.Delete(slices.Clone(tokens), at, at+1))
	}
	if same < 100 || other < 500 {
		t.Errorf("%d the same, %d others", same, other)
	}
}

// P6.2: each two of many small programs have one text just if they are the same.
func TestEachTwo(t *testing.T) {
	m := parseable(rand.New(rand.NewSource(3)))
	m.names, m.numbers, m.turns = []string{"x"}, []uint64{0}, []int{0}
	var all []api.Program
	for range 400 {
		made := thread(show1(m.expr(2)))
		if m.Intn(3) == 0 {
			made = m.program()
		}
		if loose, ok := looseOf(m.Rand, made); ok {
			if p, ok := shownAgain(t, loose); ok {
				all = append(all, p)
			}
		}
	}
	same := 0
	for i, p := range all {
		for _, q := range all[:i] {
			if onePerText(t, p, q) {
				same++
			}
		}
	}
	if same < 100 || len(all) < 200 {
		t.Errorf("%d programs, %d pairs the same", len(all), same)
	}
}

// P6.2: programs that differ in places alone have one text.
func TestPlacesAlone(t *testing.T) {
	p := parsed(t, full)
	wanted := show.Program(p)
	var move func(v reflect.Value)
	moved := 0
	move = func(v reflect.Value) {
		switch v.Kind() {
		case reflect.Struct:
			for i := range v.NumField() {
				if n := v.Type().Field(i).Name; n == "Line" || n == "Col" {
					v.Field(i).SetInt(v.Field(i).Int()*7 - 3)
					moved++
				} else {
					move(v.Field(i))
				}
			}
		case reflect.Slice:
			for i := range v.Len() {
				move(v.Index(i))
			}
		}
	}
	move(reflect.ValueOf(&p).Elem())
	want(t, show.Program(p), wanted)
	if moved < 200 {
		t.Error(moved)
	}
}
