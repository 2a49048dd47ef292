package lower_test

import (
	"fmt"
	"math/rand"
	"reflect"
	"testing"

	"padlock/api"
	"padlock/code"
	"padlock/lower"
	"padlock/parse"
)

// P10.1, P10.2: texts made by chance: that their code is what another telling says, can be, and does what the text says, in no more steps than Most.
func TestManyTexts(t *testing.T) {
	t.Parallel()
	r := rand.New(rand.NewSource(1))
	why, ops, items := map[string]int{}, map[int]int{}, map[string]int{}
	for i := range 2400 {
		m := &maker{Rand: r, most: 3 + i%9, less: 1 + i%2, deepest: 6, turns: []int{3, 3, 3, 30, 100}[i%5]}
		if i%6 == 0 {
			m.most, m.less, m.deepest, m.like = 80, []int{50, 25}[i%4/2], 2+i%4, []int{aCall, aSection, aMake}[i/6%3]
		}
		text := m.program()
		if len(text) > api.MaxText {
			continue
		}
		p := parsed(t, text)
		c, fault := lower.Lower(p)
		want, reason, wrong := tell(p)
		if got := listing(c); got != want || fault != wrong {
			t.Fatalf("%s: %v\n%s\nnot %v %s\n%s", text, fault, got, wrong, reason, want)
		}
		if why[reason]++; fault.Err != api.OK {
			continue
		}
		if !code.Good(c) {
			t.Fatalf("%s: this can't be:\n%s", text, want)
		}
		did(t, text, p, c)
		for _, b := range c.Threads {
			for _, x := range b.Code {
				ops[x.Op]++
				for _, item := range append(x.Items, x.Index...) {
					items[fmt.Sprint(item.Op, item.Bin)]++
				}
			}
		}
	}
	for _, reason := range []string{"", "instructions", "slots", "items", "steps", "sites", "sections", "calls"} {
		if why[reason] < 5 {
			t.Errorf("%q: only %d of %v", reason, why[reason], why)
		}
	}
	for op := api.DoCalc; op <= api.Halt; op++ {
		if ops[op] < 50 {
			t.Errorf("instruction %s: only %d", opNames[op], ops[op])
		}
	}
	if len(items) != 7+9+8+2 {
		t.Errorf("not all items: %v", items)
	}
}

// did: that a code does what its program says.
func did(t *testing.T, text string, p api.Program, c api.Code) {
	t.Helper()
	got, steps := runCode(c)
	if want := runProgram(p); !reflect.DeepEqual(got, want) {
		t.Fatalf("%s:\n%s\ndoes %v, not %v", text, listing(c), got, want)
	}
	for i, n := range steps {
		if n > c.Threads[i].Most {
			t.Fatalf("%s: %d steps, more than %d", text, n, c.Threads[i].Most)
		}
	}
}

// Rules 3 and 4: what is handed in stays as it is, and the answer hangs on it alone.
func TestArgumentsStay(t *testing.T) {
	text := recs + "fun f(p: int, q: real) { o: loop 2 { if p { break o; } else { print -q; } } } thread { " + locals + "call f(i, x); atomic { let y = new R; set y.v = i; set m[i] = 1; } } thread { " + rows(4, "let a@ = 1;") + " }"
	p, was := parsed(t, text), parsed(t, text)
	roomy(reflect.ValueOf(&p).Elem())
	roomy(reflect.ValueOf(&was).Elem())
	first, _ := lower.Lower(p)
	told := listing(first)
	lowered(t, "thread { print 1; }")
	lower.Lower(parsed(t, "thread { "+rows(300, "print 1;")+" }"))
	second, fault := lower.Lower(p)
	if fault != (api.Fault{}) || listing(second) != told {
		t.Error(fault, told, listing(second))
	}
	if !reflect.DeepEqual(p, was) || !reflect.DeepEqual(spare(reflect.ValueOf(p)), spare(reflect.ValueOf(was))) {
		t.Error("the program, or its spare room, was changed")
	}
	// What is written into an answer isn't seen in another one, nor is what is written into the program.
	scribble(reflect.ValueOf(&first).Elem())
	if listing(second) != told {
		t.Error("two answers share something")
	}
	scribble(reflect.ValueOf(&p).Elem())
	if listing(second) != told {
		t.Error("an answer and the program share something")
	}
}

// P10.1, rule 3: no two lists of an answer share anything, their spare room included.
func TestListsApart(t *testing.T) {
	c := lowered(t, recs+"fun f(p: int, q: real) { print p; print q; } thread { "+locals+"call f(1, x); loop 3 { call f(i, x); } atomic { set m[i + 1] = i + 1; var y = new R; y = new R; } } thread { atomic { } loop 2 { print 1; } }")
	var lists []reflect.Value
	gather(reflect.ValueOf(c), &lists)
	if len(lists) < 30 {
		t.Error(len(lists))
	}
	for i, a := range lists {
		for _, b := range lists[i+1:] {
			if a.Pointer() < b.Pointer()+uintptr(b.Cap())*b.Type().Elem().Size() && b.Pointer() < a.Pointer()+uintptr(a.Cap())*a.Type().Elem().Size() {
				t.Error("two lists share something")
			}
		}
	}
}

// gather collects all lists that have room.
func gather(v reflect.Value, to *[]reflect.Value) {
	switch v.Kind() {
	case reflect.Struct:
		for i := range v.NumField() {
			gather(v.Field(i), to)
		}
	case reflect.Slice:
		if v.Cap() > 0 {
			*to = append(*to, v)
		}
		for i := range v.Len() {
			gather(v.Index(i), to)
		}
	}
}

// roomy gives each list some spare room.
func roomy(v reflect.Value) {
	switch v.Kind() {
	case reflect.Struct:
		for i := range v.NumField() {
			roomy(v.Field(i))
		}
	case reflect.Slice:
		wide := reflect.MakeSlice(v.Type(), v.Len(), v.Len()+3)
		reflect.Copy(wide, v)
		v.Set(wide)
		for i := range v.Len() {
			roomy(v.Index(i))
		}
	}
}

// spare: what stands in the spare room of all lists.
func spare(v reflect.Value) []any {
	var lists []reflect.Value
	gather(v, &lists)
	var out []any
	for _, l := range lists {
		for i := l.Len(); i < l.Cap(); i++ {
			out = append(out, l.Slice(0, l.Cap()).Index(i).Interface())
		}
	}
	return out
}

// scribble writes into all that is within.
func scribble(v reflect.Value) {
	switch v.Kind() {
	case reflect.Int:
		v.SetInt(v.Int() + 77)
	case reflect.Uint64:
		v.SetUint(v.Uint() + 77)
	case reflect.String:
		v.SetString("z")
	case reflect.Bool:
		v.SetBool(!v.Bool())
	case reflect.Struct:
		for i := range v.NumField() {
			scribble(v.Field(i))
		}
	case reflect.Slice:
		for i := range v.Len() {
			scribble(v.Index(i))
		}
	}
}

// Rule 1: of programs with which something is wrong nothing is promised but that the call ends.
func TestMadeOtherwise(t *testing.T) {
	t.Parallel()
	r := rand.New(rand.NewSource(3))
	for range 20000 {
		var p api.Program
		scrawl(r, reflect.ValueOf(&p).Elem(), 4)
		lower.Lower(p)
	}
	for _, text := range []string{
		"fun f() { call f(); call f(); } thread { call f(); }", "fun f() { atomic { call g(); call g(); } } fun g() { loop 0 { call f(); } call f(); } thread { call g(); }", "thread { call f(); break; continue x; let x = y; z = 1; print u; set g = 1; set g.v = 1; set g[1] = 2; let w = load g.v; let v = new R; let k = size k; }",
		"fun f(a: int) { print a; } thread { call f(); call f(1, 2, 3); }", "record R { v: S; } global g: T; thread { atomic { let x = nil R; let y = load x.u; let z = load y.v; } }",
	} {
		p, fault := parse.Parse(text)
		if fault != (api.Fault{}) {
			t.Fatal(text, fault)
		}
		lower.Lower(p)
	}
	// As many parts within one another as the document's bound names.
	e, s := api.Expr{Op: api.Lit}, api.Stmt{Op: api.Print}
	for range 1<<16 - 4 {
		e = api.Expr{Op: api.Binary, Kids: []api.Expr{e, {Op: api.Lit}}}
		s = api.Stmt{Op: api.Atomic, Body: []api.Stmt{s}}
	}
	p := api.Program{Threads: []api.Thread{{Body: []api.Stmt{s}}, {Body: []api.Stmt{{Op: api.Print, E: e}}, Line: 3, Col: 4}}}
	if _, fault := lower.Lower(p); fault != (api.Fault{Err: api.ErrSize, Line: 3, Col: 4}) {
		t.Error(fault)
	}
}

// scrawl: any value, by chance; more often such as may be.
func scrawl(r *rand.Rand, v reflect.Value, deep int) {
	switch v.Kind() {
	case reflect.Int:
		v.SetInt(int64(r.Intn(15) - 2))
	case reflect.Uint64:
		v.SetUint(r.Uint64() >> r.Intn(64))
	case reflect.String:
		v.SetString([]string{"", "x", "y"}[r.Intn(3)])
	case reflect.Struct:
		for i := range v.NumField() {
			scrawl(r, v.Field(i), deep)
		}
	case reflect.Slice:
		if n := r.Intn(4); deep > 0 {
			v.Set(reflect.MakeSlice(v.Type(), n, n))
			for i := range n {
				scrawl(r, v.Index(i), deep-1)
			}
		}
	}
}
