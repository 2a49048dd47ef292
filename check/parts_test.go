package check_test

import (
	"strings"
	"testing"

	"padlock/api"
)

// The chapter's example, and that of the whole.
func TestExamples(t *testing.T) {
	each(t, "", []faults{
		{api.ErrShared, "global g: int; thread { print 1; ^set g = 2; }"},
		{api.ErrName, "thread { atomic { let x = load ^g; } }"},
		{api.ErrRecur, "fun ^f() { call f(); }"},
		{api.OK, ""}, {api.OK, "thread { }"}, {api.OK, head},
		{api.OK, "global n: int; thread { loop 3 { atomic { let x = load n; set n = x + 1; } } } thread { loop 3 { atomic { let x = load n; set n = x + 1; } } }"},
	})
}

// P7.1, step 1: records, and their fields.
func TestRecords(t *testing.T) {
	each(t, "", []faults{
		{api.OK, rows(6, "record @ { }")},
		{api.ErrSize, rows(7, "record ^@ { }")},
		{api.ErrSize, rows(7, "record ^@ { }") + "record z { }"},
		{api.OK, "record R { " + rows(6, "@: int; ") + "}"},
		{api.ErrSize, "record R { " + rows(7, "^@: int; ") + "}"},
		{api.ErrSize, "record S { }\nrecord R { " + rows(7, "\n^@: R; ") + "z: int; }"},
		{api.ErrName, "record R { } record S { } record ^R { }"},
		{api.ErrName, "record R { } record ^R { } record R { }"},
		{api.OK, "record R { } record r { } record R_ { }"},
		{api.ErrName, "record R { a: int; b: int; ^a: real; }"},
		{api.OK, "record R { a: int; b: int; } record S { a: real; b: real; }"},
		{api.ErrName, "record R { a: int; ^b: S; }"},
		{api.OK, "record R { a: R; b: S; } record S { c: R; d: S; }"},
		{api.ErrName, "record R { a: R; ^b: S; } global S: int; fun S() { } thread { let S = 1; }"},
		{api.OK, "record R { R: R; } record S { R: int; S: ints; }"},
		{api.ErrSize, rows(6, "record @ { x: g; }") + "record ^g { }"}, // the seventh one is one that there is
		// A field of a name that is there already, and of a record that there isn't; the first field counts, whichever it is.
		{api.ErrName, "record R { a: int; ^a: S; }"}, {api.ErrName, "record R { a: int; ^b: S; a: int; }"}, {api.ErrName, "record R { a: int; ^a: int; b: S; }"},
	})
}

// P7.1, step 2: globals.
func TestGlobals(t *testing.T) {
	each(t, "", []faults{
		{api.OK, rows(8, "global @: int; ")},
		{api.ErrSize, rows(9, "global ^@: int; ")},
		{api.ErrSize, rows(9, "global ^@: int; ") + "global z: int;"},
		{api.ErrName, "global a: int; global b: int;\nglobal ^a: real;"},
		{api.ErrName, "global a: int; global ^b: R;"},
		{api.OK, "global a: int; global b: R; record R { }"},
		{api.OK, "global int_: int; global x: real; global y: ints;"},
		{api.ErrName, "global ^a: a; fun a() { } thread { }"},
	})
}

// P7.1, step 3: functions, and their parameters.
func TestFunctions(t *testing.T) {
	each(t, "", []faults{
		{api.OK, rows(8, "fun @() { } ")},
		{api.ErrSize, rows(9, "fun ^@() { } ")},
		{api.ErrSize, rows(9, "fun ^@() { } ") + "fun z() { }"},
		{api.OK, "fun f(" + strings.TrimSuffix(rows(6, "@: int, "), ", ") + ") { }"},
		{api.ErrSize, "fun f(" + strings.TrimSuffix(rows(7, "^@: int, "), ", ") + ") { }"},
		{api.ErrSize, "fun f(" + rows(7, "^@: int, ") + "z: int) { }"},
		{api.ErrName, "fun f() { } fun g() { } fun ^f(a: int) { }"},
		{api.ErrName, "fun f(a: int, b: int, ^a: real) { }"},
		{api.OK, "fun f(a: int, b: int) { } fun g(a: real, b: real) { }"},
		{api.ErrName, "fun f(a: int, ^b: R) { }"},
		{api.OK, "fun f(a: int, b: R) { } record R { }"},
		{api.OK, "record R { } fun f(a: int, b: real, c: ints, d: R) { } fun R() { }"},
		{api.ErrName, "fun f(^a: f) { }"},
	})
}

// P7.1, step 4: threads.
func TestThreads(t *testing.T) {
	each(t, "", []faults{
		{api.OK, rows(4, "thread { } ")}, {api.ErrSize, rows(5, "^thread { } ")}, {api.ErrSize, rows(5, "\n ^thread { } ") + "thread { }"},
	})
}

// P7.1, step 5: functions that call themselves, and those that only call such.
func TestRecursion(t *testing.T) {
	each(t, "", []faults{
		{api.ErrRecur, "fun ^f() { print 1; call f(); }"},
		{api.ErrRecur, "fun ^f(x: int) { if x { } else { loop 3 { atomic { call f(x - 1); } } } }"},
		{api.ErrRecur, "fun ^f() { call g(); } fun g() { call f(); }"},
		{api.ErrRecur, "fun ^f() { call g(); } fun g() { call h(); } fun h() { atomic { call f(); } }"},
		{api.ErrRecur, "fun f() { call g(); } fun ^g() { call h(); } fun h() { call g(); }"},
		{api.ErrRecur, "fun f() { call g(); } fun g() { call h(); } fun ^h() { call h(); }"},
		{api.ErrRecur, "fun f() { call h(); call g(); } fun ^g() { call g(); } fun h() { }"},
		{api.ErrRecur, "fun f() { } fun ^g() { call f(); call h(); } fun h() { call f(); call g(); }"},
		{api.ErrRecur, "fun f() { call h(); } fun ^g() { call g(); } fun h() { call h(); }"},
		{api.OK, "fun f() { call g(); call h(); call g(); } fun g() { call h(); } fun h() { }"},
		{api.OK, "fun h() { } fun g() { call h(); call h(); } fun f() { call g(); call h(); }"},
		{api.OK, "fun a() { call b(); call c(); } fun b() { call d(); } fun c() { call d(); } fun d() { }"},
		{api.OK, rows(7, "fun @() { call h(); } ") + "fun h() { } thread { call a(); call a(); }"},
		// All eight in a ring, and in a chain that ends in a ring, and one that ends.
		{api.ErrRecur, "fun ^a() { call b(); } fun b() { call c(); } fun c() { call d(); } fun d() { call e(); } fun e() { call f(); } fun f() { call g(); } fun g() { call h(); } fun h() { call a(); }"},
		{api.ErrRecur, "fun a() { call b(); } fun b() { call c(); } fun c() { call d(); } fun d() { call e(); } fun e() { call f(); } fun f() { call g(); } fun ^g() { call h(); } fun h() { call g(); }"},
		{api.OK, "fun h() { } fun a() { call b(); } fun b() { call c(); } fun c() { call d(); } fun d() { call e(); } fun e() { call f(); } fun f() { call g(); } fun g() { call h(); }"},
		// A function that there isn't is asked for only behind.
		{api.ErrRecur, "fun f() { call nix(); } fun ^g() { call nix(); call g(); }"},
		{api.ErrName, "fun f() { ^call nix(); } fun g() { call f(); }"},
	})
}

// P7.1: a local, a global, a record, a function, a field and a label of one name know nothing of one another.
func TestOneNameForAll(t *testing.T) {
	all := "record x { x: x; } global x: x; fun x(x: x) { x: loop 2 { break x; } } "
	each(t, all, []faults{
		{api.OK, "thread { x: loop 2 { continue x; } let x = nil x; x: loop 3 { break x; } call x(x); atomic { let y = load x; set x = x; set x.x = y; set y.x = x; } }"},
		{api.ErrName, "thread { atomic { let y = load ^x.x; let x = nil x; } }"},
		{api.ErrName, "thread { print ^x; }"},
		{api.ErrName, "thread { call x(^x); }"},
		{api.ErrName, "thread { ^x = nil x; }"},
		{api.ErrName, "thread { let y = ^size x; }"},
		{api.ErrType, "thread { let x = 1; call x(^x); }"},
		{api.ErrType, "thread { atomic { let x = 1; let y = load ^x.x; } }"},
		{api.ErrLabel, "thread { let x = 1; loop 2 { ^break x; } }"},
	})
	each(t, "", []faults{
		{api.ErrName, "global x: int; thread { let y = ^nil x; }"}, {api.ErrName, "fun x() { } thread { atomic { let y = ^new x; } }"},
		{api.ErrName, "record x { } thread { ^call x(); }"}, {api.ErrName, "record x { } fun x() { } thread { atomic { let x = 1; set ^x = x; } }"},
	})
}

// P7.1: each step ahead of those behind it, wherever they stand in the text.
func TestStepsInOrder(t *testing.T) {
	steps := []struct {
		step int // the seventh: the threads' statements
		faults
	}{
		{1, faults{api.ErrName, "record A { x: int; ^x: int; }"}},
		{1, faults{api.ErrSize, "record B { " + rows(7, "^@: int; ") + "}"}},
		{2, faults{api.ErrName, "global ^g1: Nix;"}},
		{2, faults{api.ErrName, "global g2: int; global ^g2: int;"}},
		{3, faults{api.ErrName, "fun f1(p: int, ^p: int) { }"}},
		{3, faults{api.ErrSize, "fun f2(" + strings.TrimSuffix(rows(7, "^@: int, "), ", ") + ") { }"}},
		{5, faults{api.ErrRecur, "fun ^f3() { call f4(); } fun f4() { call f3(); }"}},
		{5, faults{api.ErrRecur, "fun ^f5() { call f5(); }"}},
		{6, faults{api.ErrLabel, "fun f6() { ^break; }"}},
		{6, faults{api.ErrType, "fun f7() { print ^nil ints; }"}},
		{7, faults{api.ErrShared, "global g3: int; thread { ^set g3 = 1; }"}},
		{7, faults{api.ErrName, "thread { print ^x; }"}},
	}
	for i, first := range steps {
		for _, second := range steps[i+1:] {
			other := strings.ReplaceAll(second.text, "^", "")
			each(t, "", []faults{{first.err, first.text + "\n" + other}})
			if first.step < second.step { // else the one that stands first counts
				each(t, "", []faults{{first.err, other + "\n" + first.text}})
			}
		}
	}
	each(t, "", []faults{
		{api.ErrSize, "thread { print x; } thread { } thread { } thread { } ^thread { }"},
		{api.ErrSize, "thread { } thread { } thread { } thread { } ^thread { } fun f() { call f(); }"},
		{api.ErrName, "thread { } thread { } thread { } thread { } thread { } fun f(a: int, ^a: int) { }"},
		{api.ErrSize, "thread { } thread { } thread { } thread { } ^thread { } fun f() { print x; }"},
	})
}

// P7.1: within a step, each thing ahead of those behind it: too many ahead of a name that is there already, that ahead of what stands within.
func TestPartsInOrder(t *testing.T) {
	each(t, "", []faults{
		{api.ErrSize, rows(6, "record @ { }") + "record ^a { }"},
		{api.ErrSize, rows(6, "record @ { }") + "record ^g { x: int; x: int; }"},
		{api.ErrName, rows(5, "record @ { }") + "record ^a { }" + "record g { }"},
		{api.ErrName, "record R { } record ^R { a: Nix; }"},
		{api.ErrName, "record R { ^a: Nix; } record R { }"},
		{api.ErrSize, "record R { " + rows(6, "@: int; ") + "^a: Nix; }"},
		{api.ErrName, "record R { " + rows(5, "@: int; ") + "^a: int; g: int; }"},
		{api.ErrSize, rows(8, "global @: int; ") + "global ^a: Nix;"},
		{api.ErrName, rows(7, "global @: int; ") + "global ^a: int; global h: int;"},
		{api.ErrSize, rows(8, "fun @() { } ") + "fun ^a(x: Nix) { }"},
		{api.ErrName, rows(7, "fun @() { } ") + "fun ^a() { } fun h() { }"},
		{api.ErrName, "fun f() { } fun ^f(a: Nix) { }"},
		{api.ErrName, "fun f(^a: Nix) { } fun f() { }"},
		{api.ErrSize, "fun f(" + rows(6, "@: int, ") + "^a: Nix) { }"},
		{api.ErrName, "fun f(" + rows(5, "@: int, ") + "^a: int, g: int) { }"},
		{api.ErrRecur, "fun ^f() { call f(); } fun g() { call g(); }"},
	})
}
