package check_test

import (
	"fmt"
	"math/rand"
	"reflect"
	"strings"
	"testing"

	"padlock/api"
	"padlock/check"
	"padlock/num"
)

// P7.1: as deep as a text may be: blocks of each kind, in which all outer names and labels are seen, and behind which none of the inner ones are.
func TestAsDeepAsMayBe(t *testing.T) {
	for _, begin := range []string{"if 1 {", "if 1 { } else {", "l@: loop 2 {", "loop 2 {"} {
		var ahead, behind, all strings.Builder
		for i := range api.MaxDepth - 1 {
			name := string(rune('a' + i))
			fmt.Fprintf(&ahead, "var %s = 1; %s\n", name, strings.ReplaceAll(begin, "@", name))
			fmt.Fprintf(&behind, "\n } ")
			all.WriteString(name + " = " + name + " + 1; ")
		}
		deep := func(innermost string) string { return "thread { " + ahead.String() + innermost + behind.String() }
		each(t, "global n: int; ", []faults{
			{api.OK, deep(all.String()) + "}"}, {api.ErrName, deep("print ^z;") + "}"}, {api.ErrName, deep("^let a = 1;") + "}"}, {api.ErrName, deep("^var k = 1;") + "}"}, {api.ErrShared, deep("^set n = 1;") + "}"},
			{api.ErrName, deep("") + "print a; print ^b; }"}, {api.ErrName, deep("let z = 1;") + "print ^z; }"}, {api.OK, deep("let z = 1;") + "let z = 1; let b = 2; }"},
		})
		if strings.Contains(begin, "@") {
			each(t, "", []faults{{api.OK, deep("break la; continue lk; break;") + "}"}, {api.ErrLabel, deep("") + "^break la; }"}, {api.ErrLabel, deep("^break l;") + "}"}})
		}
	}
	// Sections within sections: only the outermost end ends them all.
	each(t, "global n: int; thread { ", []faults{
		{api.OK, strings.Repeat("atomic { set n = 1; ", 11) + strings.Repeat("} ", 11) + "}"}, {api.OK, strings.Repeat("atomic { ", 11) + strings.Repeat("} set n = 1; ", 10) + "} }"}, {api.ErrShared, strings.Repeat("atomic { ", 11) + strings.Repeat("} ", 11) + "^set n = 1; }"},
	})
	// Expressions, with brackets and prefixes.
	each(t, "", []faults{
		{api.OK, "thread { print " + strings.Repeat("-", 11) + "1; }"}, {api.ErrType, "thread { print " + strings.Repeat("-", 10) + "^-nil ints; }"}, {api.OK, "thread { print " + strings.Repeat("(", 11) + "1" + strings.Repeat(" + 1)", 11) + "; }"},
		{api.ErrType, "thread { print " + strings.Repeat("(", 11) + "1 ^+ #0000000000000000)" + strings.Repeat(" + z)", 10) + "; }"}, {api.ErrName, "thread { print " + strings.Repeat("(1 + ", 11) + "^z" + strings.Repeat(")", 11) + "; }"},
		{api.OK, "thread { print " + strings.Repeat("trunc real ", 5) + "1; }"}, {api.ErrType, "thread { print " + strings.Repeat("trunc real ", 4) + "trunc ^real #0000000000000000; }"},
	})
}

// filled: a text just as long as one may be: ahead, as many of a part as there is room for, with their numbers in the place of @, behind, and blanks.
func filled(t *testing.T, ahead, part, behind string) string {
	t.Helper()
	var out strings.Builder
	out.WriteString(ahead)
	for i := 0; ; i++ {
		one := strings.ReplaceAll(part, "@", fmt.Sprint(i))
		room := api.MaxText - out.Len() - len(behind) + strings.Count(ahead+behind, "^")
		if len(one) > room {
			return out.String() + strings.Repeat(" ", room) + behind
		}
		out.WriteString(one)
	}
}

// P7.1: as long as a text may be, of each kind of part; the first thing that is wrong, and the last.
func TestAsLongAsMayBe(t *testing.T) {
	each(t, "", []faults{
		{api.OK, filled(t, "thread{print 1", "+1", ";}")}, {api.ErrType, filled(t, "thread{print 1", "+1", "^+real 1;}")}, {api.ErrType, filled(t, "thread{print 1^+real 1", "+z", ";}")},
		{api.OK, filled(t, "thread{", "let a@=1;", "}")}, {api.ErrName, filled(t, "thread{", "let a@=1;", "^let a0=1;}")}, {api.ErrName, filled(t, "thread{", "let a@=1;", "print ^a99999;}")}, {api.OK, filled(t, "thread{", "var a@=1;", "a0=2;a500=3;}")}, {api.ErrType, filled(t, "thread{", "let a@=1;", "^a0=1;}")},
		{api.OK, filled(t, "thread{", "print 1;", "}")}, {api.ErrLabel, filled(t, "thread{", "print 1;", "^break;}")}, {api.OK, filled(t, "thread{", "if 1{let a=1;}", "}")}, {api.OK, filled(t, "thread{", "a:loop 1{break a;}", "}")}, {api.ErrLabel, filled(t, "thread{", "a@:loop 1{}", "^break a0;}")},
		{api.OK, filled(t, "global g:int;thread{", "atomic{set g=1;}", "}")}, {api.ErrShared, filled(t, "global g:int;thread{", "atomic{set g=1;}", "^set g=1;}")}, {api.ErrShared, filled(t, "global g:int;fun f(){", "print 1;", "set g=1;} thread { ^call f(); }")}, {api.OK, filled(t, "global g:int;fun f(){atomic{", "set g=1;", "}} thread { call f(); }")},
		{api.ErrSize, filled(t, "record a{} record b{} record c{} record d{} record e{} record f{} record ^g{}", "record r@{}", "")}, {api.ErrSize, filled(t, "record r{ a:int; b:int; c:int; d:int; e:int; f:int; ^g:int;", "f@:int;", "}")}, {api.ErrSize, filled(t, "thread{} thread{} thread{} thread{} ^thread{}", "thread{}", "")},
		{api.ErrSize, filled(t, rows(9, "global ^@:int;"), "global g@:int;", "")}, {api.ErrSize, filled(t, rows(9, "fun ^@(){}"), "fun f@(){}", "")}, {api.ErrSize, filled(t, "fun f("+rows(7, "^@:int,"), "p@:int,", "z:int){}")},
		{api.ErrName, filled(t, "fun f(){^call g0();", "call g@();", "}")}, {api.ErrType, filled(t, "fun f(){} thread{^call f(1", ",@", ");}")}, {api.ErrRecur, filled(t, "fun ^f(){", "call g@();", "call f();}")},
	})
	name := strings.Repeat("x", (api.MaxText-30)/2)
	each(t, "", []faults{{api.OK, "thread{let " + name + "=1;print " + name + ";}"}, {api.ErrName, "thread{let " + name + "=1;print ^" + name + "x;}"}})
}

// P7.1: eight functions, each of which calls the next one as often as there is room for: on more ways than can be gone.
func TestMoreWaysThanCanBeGone(t *testing.T) {
	text := "global n:int;"
	for i := range 8 {
		if text += fmt.Sprintf("fun f%d(){", i); i < 7 {
			text += strings.Repeat(fmt.Sprintf("call f%d();", i+1), 80)
			if i == 3 {
				text += "atomic{call f7();}"
			}
		}
		text += "}"
	}
	each(t, text, []faults{{api.OK, ""}, {api.OK, "thread { call f0(); }"}})
	reach(t, text)
	round := strings.TrimSuffix(text, "}") + "call f5();}"
	each(t, strings.Replace(round, "fun f5", "fun ^f5", 1), []faults{{api.ErrRecur, ""}})
	touching := strings.TrimSuffix(text, "}") + "set n=1;}"
	reach(t, touching, "f0", "f1", "f2", "f3", "f4", "f5", "f6", "f7")
	each(t, touching, []faults{{api.ErrShared, "thread { ^call f0(); }"}, {api.OK, "thread { atomic { call f0(); } }"}})
}

// Rules 3 and 4: what is handed in stays as it is, and the answer hangs on it alone.
func TestArgumentsStay(t *testing.T) {
	text := head + "fun f(p: int) { let y = load n; call k(); } fun k() { o: loop 3 { atomic { set n = 1; } } } thread { atomic { " + seen + " call f(i); } call k(); break; }"
	p, was := parsed(t, text), parsed(t, text)
	for _, q := range []api.Program{p, was} {
		for i := range q.Funs {
			q.Funs[i].Body = append(make([]api.Stmt, 0, 9), q.Funs[i].Body...)
			q.Funs[i].Params = append(make([]api.Named, 0, 9), q.Funs[i].Params...)
		}
	}
	first, reached := check.Program(p), check.Shared(p, "f")
	check.Program(parsed(t, "thread { print z; }"))
	check.Shared(parsed(t, "global n: int; fun k() { set n = 1; }"), "k")
	if check.Program(p) != first || first.Err != api.ErrLabel || check.Shared(p, "f") != reached || !reached || check.Shared(p, "k") {
		t.Error(first, reached)
	}
	if !reflect.DeepEqual(p, was) {
		t.Error("the program was changed")
	}
	for i := range p.Funs {
		body, params := p.Funs[i].Body, p.Funs[i].Params
		if !reflect.DeepEqual(body[len(body):cap(body)], make([]api.Stmt, cap(body)-len(body))) || !reflect.DeepEqual(params[len(params):cap(params)], make([]api.Named, cap(params)-len(params))) {
			t.Error("spare room was written to")
		}
	}
}

// Rule 1: of programs that no text tells nothing is promised but that the calls end.
func TestMadeOtherwise(t *testing.T) {
	r := rand.New(rand.NewSource(3))
	for range 20000 {
		var p api.Program
		scrawl(r, reflect.ValueOf(&p).Elem(), 3)
		check.Program(p)
		check.Shared(p, "x")
	}
	// Functions of one name, of which one reaches what is shared; functions that call one another.
	set := []api.Stmt{{Op: api.Set}}
	call := func(name string) []api.Stmt { return []api.Stmt{{Op: api.Call, Name: name}} }
	check.Shared(api.Program{Funs: []api.Fun{{Name: "f", Body: set}, {Name: "f"}, {Name: "f", Body: set}, {Name: "g", Body: call("f")}}}, "g")
	check.Shared(api.Program{Funs: []api.Fun{{Name: "f", Body: call("g")}, {Name: "g", Body: call("f")}}}, "g")
	// As many parts within one another as the document's bound names.
	e := api.Expr{Op: api.Lit}
	s := api.Stmt{Op: api.Print, E: e}
	for range 1<<16 - 4 {
		e = api.Expr{Op: api.Binary, Bin: int(num.Add), Kids: []api.Expr{e, {Op: api.Lit}}}
		s = api.Stmt{Op: api.Atomic, Body: []api.Stmt{s}}
	}
	p := api.Program{Funs: []api.Fun{{Name: "f", Body: []api.Stmt{s}}}, Threads: []api.Thread{{Body: []api.Stmt{s, {Op: api.Print, E: e}}}}}
	if got := check.Program(p); got != (api.Fault{}) || check.Shared(p, "f") {
		t.Error(got)
	}
}

// scrawl: any value, by chance; more often such as may be.
func scrawl(r *rand.Rand, v reflect.Value, deep int) {
	switch v.Kind() {
	case reflect.Int:
		v.SetInt(int64(r.Intn(15) - 2))
	case reflect.Uint64:
		v.SetUint(r.Uint64() >> r.Intn(64))
	case reflect.String:
		v.SetString([]string{"", "x", "y"}[r.Intn(3)])
	case reflect.Struct:
		for i := range v.NumField() {
			scrawl(r, v.Field(i), deep)
		}
	case reflect.Slice:
		if n := r.Intn(4); deep > 0 {
			v.Set(reflect.MakeSlice(v.Type(), n, n))
			for i := range n {
				scrawl(r, v.Index(i), deep-1)
			}
		}
	}
}
