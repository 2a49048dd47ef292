package check_test

import (
	"testing"

	"padlock/api"
	"padlock/check"
)

// touching: a statement of each kind that is shared, in each of its forms, behind seen.
var touching = []string{
	"let y = load n;", "var y = load n;", "vi = load n;", "let y = load r.v;", "vr = load r.next;", "let y = load m[0];", "vi = load m[0];",
	"let y = new R;", "var y = new S;", "vr = new R;", "let y = new ints 3;", "var y = new ints 3;", "vm = new ints 3;",
	"set n = 1;", "set r.v = 1;", "set m[0] = 1;",
}

// untouching: statements that aren't.
var untouching = []string{"let y = size m;", "vi = size vm;", "let y = i;", "var y = nil R;", "vr = nil R;", "print i;", "if i { } else { }", "loop 3 { break; }", "call none();", "atomic { }", "print input 3;"}

// around: what may stand around a statement that leaves it outside all Atomics; and what doesn't.
var (
	outside = [][2]string{{"", ""}, {"if 1 { ", " }"}, {"if 1 { } else { ", " }"}, {"loop 3 { ", " }"}, {"o: loop 3 { if 1 { print 1; } else { if 2 { print 2; ", " } } }"}, {"atomic { } ", ""}, {"", " atomic { }"}, {"loop 1 { atomic { print 1; } ", " }"}}
	inside  = [][2]string{{"atomic { ", " }"}, {"if 1 { atomic { ", " } }"}, {"atomic { if 1 { } else { ", " } }"}, {"atomic { loop 3 { ", " } }"}, {"loop 2 { atomic { loop 3 { if 1 { ", " } } } }"}, {"atomic { atomic { ", " } }"}, {"atomic { atomic { } ", " }"}, {"atomic { if 1 { atomic { print 1; } } ", " }"}}
)

// P7.1: what is shared, in a thread: outside all Atomics it is wrong, at the statement; Size isn't shared.
func TestSharedInThreads(t *testing.T) {
	for _, s := range touching {
		for _, a := range outside {
			each(t, head, []faults{{api.ErrShared, "thread { " + seen + a[0] + "^" + s + a[1] + " }"}})
		}
		for _, a := range inside {
			each(t, head, []faults{{api.OK, "thread { " + seen + a[0] + s + a[1] + " }"}})
		}
	}
	for _, s := range untouching {
		for _, a := range append(outside, inside...) {
			each(t, head, []faults{{api.OK, "thread { " + seen + a[0] + s + a[1] + " }"}})
		}
	}
	each(t, head, []faults{
		{api.ErrShared, "thread { atomic { set n = 1; } ^set n = 2; }"}, {api.ErrShared, "thread { atomic { set n = 1; } } thread { ^set n = 2; }"}, {api.ErrShared, "thread { atomic { atomic { } } ^set n = 2; }"}, {api.ErrShared, "thread { atomic { atomic { set n = 1; } set n = 1; } if 1 { ^set n = 2; } }"},
	})
}

// P7.1: last of all of a statement; ahead of those behind it.
func TestSharedLastOfAll(t *testing.T) {
	each(t, head+"fun f(p: int) { set n = p; } ", []faults{
		{api.ErrName, "thread { let y = load ^z; }"}, {api.ErrName, "thread { let y = 1; ^let y = load n; }"}, {api.ErrName, "thread { ^y = load n; }"}, {api.ErrType, "thread { let y = 1; ^y = load n; }"}, {api.ErrType, "thread { var y = real 1; y = ^load n; }"}, {api.ErrName, "thread { let y = ^new Nix; }"}, {api.ErrType, "thread { let y = new ints ^real 1; }"}, {api.ErrType, "thread { set n = ^real 1; }"}, {api.ErrName, "thread { set n = ^z; }"},
		{api.ErrName, "thread { set ^z = 1; }"}, {api.ErrType, "thread { ^call f(); }"}, {api.ErrType, "thread { call f(^real 1); }"}, {api.ErrName, "thread { call f(^z); }"},
		{api.ErrShared, "thread { ^call f(1); }"}, {api.ErrShared, "thread { ^set n = 1; print z; }"}, {api.ErrShared, "thread { if 1 { ^set n = 1; } else { print z; } break; }"}, {api.ErrShared, "thread { ^let y = load n; let y = 1; } thread { break; }"}, {api.ErrName, "thread { print ^z; set n = 1; }"}, {api.ErrType, "thread { if ^real 1 { set n = 1; } }"}, {api.ErrSize, "thread { ^loop 101 { set n = 1; } }"},
		{api.ErrName, "thread { } fun k() { print ^z; } thread { set n = 1; }"},
	})
}

// P7.1: calls of functions that reach what is shared: directly, through others, in ifs and loops; not within Atomics.
func TestSharedThroughFunctions(t *testing.T) {
	for _, s := range touching {
		for _, a := range outside {
			f := "fun f() { " + seen + a[0] + s + a[1] + " } fun k() { if 1 { } else { loop 2 { call f(); } } } fun l() { print 1; call none(); call k(); } fun m() { atomic { call l(); } } "
			reach(t, head+f, "f", "k", "l")
			each(t, head+f, []faults{
				{api.ErrShared, "thread { print 1; ^call f(); }"}, {api.ErrShared, "thread { ^call k(); }"}, {api.ErrShared, "thread { loop 3 { if 1 { ^call l(); } } }"}, {api.OK, "thread { call m(); }"}, {api.OK, "thread { atomic { call f(); call k(); if 1 { call l(); } call m(); } call m(); }"},
			})
		}
		for _, a := range inside {
			f := "fun k() { call f(); } fun f() { " + seen + a[0] + s + a[1] + " } "
			reach(t, head+f)
			each(t, head+f, []faults{{api.OK, "thread { call f(); call k(); }"}})
		}
	}
	for _, s := range untouching {
		f := "fun k() { call f(); } fun f() { " + seen + s + " } "
		reach(t, head+f)
		each(t, head+f, []faults{{api.OK, "thread { call f(); call k(); }"}})
	}
}

// reach: that just those of a text's functions reach what is shared.
func reach(t *testing.T, text string, names ...string) {
	t.Helper()
	p := parsed(t, text)
	if fault := check.Program(p); fault != (api.Fault{}) {
		t.Errorf("%.500q: %v", text, fault)
	}
	want := map[string]bool{}
	for _, n := range names {
		want[n] = true
	}
	for _, f := range p.Funs {
		if check.Shared(p, f.Name) != want[f.Name] {
			t.Errorf("%.500q: %s: %v", text, f.Name, !want[f.Name])
		}
	}
	for _, n := range []string{"", "nix", "R", "n", "v", "thread", "F", "f "} {
		if check.Shared(p, n) {
			t.Errorf("%.500q: %q", text, n)
		}
	}
}

// P7.1: Shared, of every function, in whatever order they stand; and of names of none.
func TestShared(t *testing.T) {
	reach(t, "")
	reach(t, head)
	const chain = "global n: int; fun a() { call b(); } fun b() { call c(); } fun c() { call d(); } fun d() { call e(); } fun e() { call f(); } fun f() { call g(); } fun g() { call h(); } "
	reach(t, chain+"fun h() { set n = 1; }", "a", "b", "c", "d", "e", "f", "g", "h")
	reach(t, chain+"fun h() { atomic { set n = 1; } }")
	const back = "global n: int; fun h() { set n = 1; } fun g() { call h(); } fun f() { atomic { call g(); } } fun e() { call f(); } fun d() { call h(); call e(); } fun c() { call f(); call d(); } "
	reach(t, back+"fun b() { atomic { call c(); } call f(); } fun a() { if 1 { call b(); } else { call c(); } }", "a", "c", "d", "g", "h")
	reach(t, "global k: int; fun f() { } fun l() { let k = 1; print k; } fun k() { set k = 1; }", "k")
}
