package check_test

import (
	"testing"

	"padlock/api"
)

// P7.1: each row of the table of statements: what is asked, in its order, and what just isn't wrong.
func TestLetAndVar(t *testing.T) {
	within(t, head+"\n", []faults{
		{api.OK, "let y = 1; let z = y;"}, {api.OK, "var y = 1; var z = y;"},
		{api.ErrName, "let y = 1; ^let y = 2;"}, {api.ErrName, "let y = 1; ^var y = 2;"}, {api.ErrName, "var y = 1; ^let y = 2;"}, {api.ErrName, "var y = 1;\n^var y = real 2;"},
		{api.ErrName, "let y = ^z;"}, {api.ErrName, "var y = ^z;"}, {api.ErrName, "let y = ^y;"}, {api.ErrName, "var y = 1 + ^y;"}, {api.ErrName, "let y = ^size y;"}, {api.ErrName, "let y = load ^y.v;"},
		// A name that is there ahead of the right side.
		{api.ErrName, "let y = 1; ^let y = z;"}, {api.ErrName, "let y = 1; ^var y = 1 + real 1;"}, {api.ErrName, "let y = 1; ^let y = load z;"},
	})
	each(t, head, []faults{
		{api.ErrName, "fun f(p: int) { ^let p = 1; }"}, {api.ErrName, "fun f(p: int) { ^var p = z; }"}, {api.OK, "fun f(p: int) { let q = p; }"},
	})
}

func TestAssign(t *testing.T) {
	within(t, head+"\n", []faults{
		{api.OK, seen + "vi = 2; vx = x; vm = m; vr = r; vs = s; vm = new ints 3; vr = new R; vi = load n; vi = size m; vr = load r.next; vi = load m[1];"},
		{api.ErrName, "^y = 1;"}, {api.ErrName, seen + "^y = 1;"}, {api.ErrName, "^n = 1;"},
		{api.ErrType, seen + "^i = 2;"}, {api.ErrType, seen + "^x = x;"}, {api.ErrType, seen + "^r = new R;"}, {api.ErrType, seen + "^m = vm;"},
		{api.ErrName, seen + "vi = ^z;"}, {api.ErrType, seen + "vi = 1 ^+ x;"},
		{api.ErrType, seen + "vi = ^x;"}, {api.ErrType, seen + "vx = ^i;"}, {api.ErrType, seen + "vr = ^s;"}, {api.ErrType, seen + "vr = ^nil ints;"}, {api.ErrType, seen + "vm = ^i;"}, {api.ErrType, seen + "vs = ^new R;"}, {api.ErrType, seen + "vi = ^new ints 2;"}, {api.ErrType, seen + "vx = ^load n;"}, {api.ErrType, seen + "vx = ^size m;"}, {api.ErrType, seen + "vr = ^load r.v;"}, {api.ErrType, seen + "vm = ^load m[1];"},
		// Of a right side with a sign its first token is its place, in brackets the bracket.
		{api.ErrType, seen + "vx = ^1 + 2;"}, {api.ErrType, seen + "vx = ^(1 + 2) * 3;"}, {api.ErrType, seen + "vi = ^x * x;"},
		// The name, for ever, the right side, another type: in that order.
		{api.ErrName, "^y = z;"}, {api.ErrName, "^y = 1 + real 1;"}, {api.ErrType, seen + "^i = z;"}, {api.ErrType, seen + "^i = nil Nix;"}, {api.ErrType, seen + "^i = x;"}, {api.ErrName, seen + "vx = 1 + ^z;"}, {api.ErrType, seen + "vx = 1 ^+ x;"}, {api.ErrSize, seen + "vx = ^input 16;"},
	})
	each(t, head, []faults{{api.ErrType, "fun f(p: int) { ^p = 1; }"}, {api.ErrType, "fun f(p: int) { if 1 { ^p = z; } }"}})
}

func TestSet(t *testing.T) {
	within(t, head+"\n", []faults{
		{api.OK, seen + "set n = 1; set q = x; set a = m; set g = r; set h = s; set r.v = i; set r.w = x; set r.all = m; set r.next = r; set r.other = s; set m[i] = i;"},
		{api.ErrName, seen + "set ^z = 1;"}, {api.ErrName, seen + "set ^i = 1;"}, {api.ErrName, seen + "set n = ^z;"}, {api.ErrName, seen + "set n = ^n;"},
		{api.ErrType, seen + "set n = ^x;"}, {api.ErrType, seen + "set q = ^1;"}, {api.ErrType, seen + "set a = ^nil R;"}, {api.ErrType, seen + "set g = ^nil S;"}, {api.ErrType, seen + "set h = ^r;"}, {api.ErrType, seen + "set r.v = ^x;"}, {api.ErrType, seen + "set r.w = ^1;"}, {api.ErrType, seen + "set r.next = ^s;"}, {api.ErrType, seen + "set m[1] = ^x;"}, {api.ErrType, seen + "set m[1] = ^m;"},
		{api.ErrType, seen + "set q = 1 ^+ 2;"}, {api.ErrType, seen + "set n = (x ^* x);"},
		// The place ahead of E, E ahead of its type.
		{api.ErrName, seen + "set ^z = z;"}, {api.ErrType, seen + "set ^i.v = z;"}, {api.ErrName, seen + "set ^r.z = z;"}, {api.ErrType, seen + "set m[^x] = z;"}, {api.ErrType, seen + "set m[^x] = x;"}, {api.ErrType, seen + "set q = 1 ^+ x;"}, {api.ErrSize, seen + "set q = ^input 16;"}, {api.ErrName, seen + "set n = ^nil Nix;"},
	})
}

func TestPrint(t *testing.T) {
	within(t, head+"\n", []faults{
		{api.OK, seen + "print i; print x; print vi + 1; print m == m; print -x;"},
		{api.ErrName, seen + "print ^z;"}, {api.ErrType, seen + "print ^m;"}, {api.ErrType, seen + "print ^r;"}, {api.ErrType, seen + "print ^nil S;"}, {api.ErrType, seen + "print (^nil ints);"},
		{api.ErrName, seen + "print ^nil Nix;"},
	})
}

func TestIf(t *testing.T) {
	within(t, head+"\n", []faults{
		{api.OK, seen + "if i { } if x < x { } else { } if r == nil R { print 1; } else { print 2; }"},
		{api.ErrName, seen + "if ^z { }"}, {api.ErrType, seen + "if ^x { }"}, {api.ErrType, seen + "if ^m { }"}, {api.ErrType, seen + "if ^r { } else { }"}, {api.ErrType, seen + "if x ^+ x { }"},
		{api.ErrName, seen + "if 1 { print ^z; }"}, {api.ErrName, seen + "if 1 { } else { print ^z; }"},
		// E, its type, Body, Else, what stands behind.
		{api.ErrName, seen + "if ^z { print m; } else { break; } break;"},
		{api.ErrType, seen + "if ^x { print z; } else { break; } break;"},
		{api.ErrName, seen + "if 1 { print ^z; } else { break; } break;"},
		{api.ErrLabel, seen + "if 1 { print 1; } else { ^break; } print m;"},
		{api.ErrType, seen + "if 1 { print 1; } else { print 2; } print ^m;"},
	})
}

func TestLoop(t *testing.T) {
	within(t, head+"\n", []faults{
		{api.OK, "loop 0 { } loop 1 { } loop 100 { } o: loop 100 { }"},
		{api.ErrSize, "^loop 101 { }"}, {api.ErrSize, "^o: loop 101 { }"}, {api.ErrSize, "^loop 9223372036854775807 { }"}, {api.ErrSize, "loop 100 { ^loop 101 { } }"},
		{api.ErrName, "o: loop 1 { ^o: loop 1 { } }"}, {api.ErrName, "o: loop 1 { loop 2 { p: loop 3 { if 1 { ^o: loop 1 { } } } } }"}, {api.ErrName, "o: loop 1 { p: loop 2 { ^p: loop 3 { } } }"},
		{api.OK, "o: loop 1 { p: loop 1 { } } o: loop 2 { } p: loop 3 { o: loop 1 { } }"}, {api.OK, "loop 1 { loop 2 { loop 3 { } } }"}, {api.OK, "o: loop 1 { p: loop 2 { } p: loop 2 { } }"}, {api.OK, "o: loop 1 { atomic { o: loop 1 { } } }"},
		{api.ErrName, "o: loop 1 { atomic { p: loop 1 { ^p: loop 1 { } } } }"}, {api.ErrName, "o: loop 1 { atomic { o: loop 1 { } } ^o: loop 2 { } }"},
		{api.ErrName, "loop 3 { print ^z; }"},
		// How often, the label, the Body, what stands behind.
		{api.ErrSize, "o: loop 1 { ^o: loop 101 { print z; } }"}, {api.ErrSize, "^loop 101 { print z; } break;"}, {api.ErrName, "o: loop 1 { ^o: loop 100 { print z; } } break;"}, {api.ErrName, "loop 1 { print ^z; } break;"}, {api.ErrLabel, "loop 1 { } ^break; print z;"},
	})
}

// P7.1: labels through ifs and sections, of loops within loops, of a loop behind another one.
func TestBreakAndContinue(t *testing.T) {
	for _, word := range []string{"break", "continue"} {
		within(t, "", []faults{
			{api.ErrLabel, "^" + word + ";"}, {api.ErrLabel, "^" + word + " o;"}, {api.ErrLabel, "if 1 { ^" + word + "; }"},
			{api.OK, "loop 1 { " + word + "; }"}, {api.ErrLabel, "loop 1 { ^" + word + " o; }"},
			{api.OK, "o: loop 1 { " + word + "; }"}, {api.OK, "o: loop 1 { " + word + " o; }"}, {api.ErrLabel, "o: loop 1 { ^" + word + " p; }"},
			{api.OK, "o: loop 1 { if 1 { } else { p: loop 2 { loop 3 { if 1 { " + word + " o; } " + word + " p; " + word + "; } } } }"},
			{api.ErrLabel, "o: loop 1 { p: loop 1 { } ^" + word + " p; }"}, {api.ErrLabel, "o: loop 1 { } ^" + word + " o;"}, {api.ErrLabel, "loop 1 { } ^" + word + ";"},
			{api.ErrLabel, "o: loop 1 { } p: loop 1 { ^" + word + " o; }"}, {api.OK, "o: loop 1 { } p: loop 1 { " + word + " p; }"}, {api.ErrLabel, "p: loop 1 { ^" + word + " o; } o: loop 1 { }"},
			{api.ErrLabel, "o: loop 1 { atomic { ^" + word + " o; } }"}, {api.ErrLabel, "o: loop 1 { atomic { ^" + word + "; } }"}, {api.ErrLabel, "loop 1 { atomic { if 1 { ^" + word + "; } } }"},
			{api.OK, "o: loop 1 { atomic { } " + word + " o; }"}, {api.OK, "o: loop 1 { atomic { p: loop 1 { " + word + " p; } } " + word + "; }"}, {api.OK, "loop 1 { atomic { loop 1 { " + word + "; } } }"},
			{api.ErrLabel, "o: loop 1 { atomic { p: loop 1 { ^" + word + " o; } } }"}, {api.ErrLabel, "o: loop 1 { atomic { p: loop 1 { " + word + "; } ^" + word + "; } }"}, {api.OK, "o: loop 1 { atomic { o: loop 1 { " + word + " o; } } " + word + " o; }"},
			{api.ErrLabel, "o: loop 1 { atomic { atomic { } ^" + word + " o; } }"}, {api.ErrLabel, "o: loop 1 { p: loop 1 { atomic { } } ^" + word + " p; }"},
		})
		each(t, "", []faults{
			{api.ErrLabel, "fun f() { ^" + word + " o; } thread { o: loop 1 { call f(); } }"}, {api.ErrLabel, "fun f() { ^" + word + "; } thread { o: loop 1 { call f(); } }"},
			{api.ErrLabel, "fun f() { o: loop 1 { } } fun g() { ^" + word + " o; }"}, {api.ErrLabel, "thread { o: loop 1 { } } thread { ^" + word + " o; }"},
			{api.OK, "fun f() { o: loop 1 { " + word + " o; } } thread { o: loop 1 { call f(); " + word + " o; } } thread { o: loop 1 { " + word + " o; } }"},
		})
	}
}

func TestCall(t *testing.T) {
	within(t, head+"\n", []faults{
		{api.OK, seen + "call none(); call two(1, r); call two(i + 1, nil R); call many(i, x, m, r, s);"},
		{api.ErrName, "^call nix();"}, {api.ErrName, "^call n();"}, {api.ErrName, "^call R();"},
		{api.ErrType, "^call none(1);"}, {api.ErrType, "^call two();"}, {api.ErrType, "^call two(1);"}, {api.ErrType, "^call two(1, nil R, 1);"},
		{api.ErrName, "call two(^z, nil R);"}, {api.ErrName, "call two(1, ^z);"},
		{api.ErrType, seen + "call two(^x, r);"}, {api.ErrType, seen + "call two(1, ^s);"}, {api.ErrType, seen + "call two(1, ^1);"}, {api.ErrType, seen + "call two(x ^* x, r);"},
		{api.ErrType, seen + "call many(^x, x, m, r, s);"}, {api.ErrType, seen + "call many(i, ^i, m, r, s);"}, {api.ErrType, seen + "call many(i, x, ^r, r, s);"}, {api.ErrType, seen + "call many(i, x, m, ^s, s);"}, {api.ErrType, seen + "call many(i, x, m, r, ^r);"},
		// The function, how many, then one by one the expression and its type.
		{api.ErrName, "^call nix(z, 1 + real 1);"}, {api.ErrType, "^call two(z);"}, {api.ErrType, "^call two(z, z, z);"}, {api.ErrName, "call two(^z, real 1);"}, {api.ErrType, "call two(^real 1, z);"}, {api.ErrName, "call two(1, ^z);"}, {api.ErrType, "call two(real 1 ^+ 1, z);"},
	})
	each(t, head, []faults{
		{api.OK, "fun six(a: int, b: int, c: int, d: int, e: int, f: int) { } thread { call six(1, 2, 3, 4, 5, 6); }"},
		{api.ErrType, "fun six(a: int, b: int, c: int, d: int, e: int, f: int) { } thread { call six(1, 2, 3, 4, 5, ^#0000000000000000); }"},
		{api.OK, "thread { call later(1); } fun later(a: int) { }"},
	})
}

// P7.1: names that are seen, and no more.
func TestSeen(t *testing.T) {
	within(t, head+"\n", []faults{
		// Behind a block's end, in the other arm, in the next turn, in a section, and behind it.
		{api.ErrName, "if 1 { let y = 1; } print ^y;"}, {api.ErrName, "if 1 { let y = 1; } else { print ^y; }"}, {api.ErrName, "if 1 { } else { let y = 1; } print ^y;"}, {api.ErrName, "loop 2 { let y = 1; } print ^y;"}, {api.ErrName, "loop 2 { print ^y; let y = 1; }"}, {api.ErrName, "atomic { let y = 1; } print ^y;"}, {api.ErrName, "atomic { var y = 1; } ^y = 1;"},
		{api.OK, "let y = 1; if y { print y; } else { print y; } loop 2 { print y; atomic { print y; } } print y;"}, {api.OK, "var y = 1; if y { y = 2; } else { y = 3; } loop 2 { y = 4; atomic { y = 5; } } y = 6;"},
		// Given again, of another type, behind the block in which it was seen; not in one while it is.
		{api.OK, "if 1 { let y = 1; } else { var y = nil R; y = nil R; } loop 3 { let y = real 1; } atomic { let y = nil ints; } let y = 2; print y;"},
		{api.ErrName, "let y = 1; if 1 { ^let y = 1; }"}, {api.ErrName, "let y = 1; if 1 { } else { ^let y = 1; }"}, {api.ErrName, "let y = 1; loop 1 { ^var y = 1; }"}, {api.ErrName, "let y = 1; atomic { ^let y = 1; }"}, {api.ErrName, "if 1 { let y = 1; } let y = 1; if 1 { loop 3 { atomic { ^let y = 1; } } }"},
		{api.ErrType, "if 1 { let y = real 1; } let y = 1; print y ^+ real 1;"}, {api.OK, "if 1 { let y = 1; } let y = real 1; print y + real 1;"},
		{api.ErrType, "if 1 { var y = 1; } let y = 1; ^y = 2;"}, {api.OK, "if 1 { let y = 1; } var y = 1; y = 2;"},
		// Inner blocks leave the names of outer ones as they are.
		{api.OK, "let y = 1; if 1 { let z = real 1; if 1 { let w = nil R; } print z; let w = 1; print w; } print y; let z = y; print z + y;"},
		// All that were given in a block go with it.
		{api.ErrName, "let k = 0; if 1 { let y = 1; let z = 2; let w = 3; } print k; let z = 1; print z; print ^w;"},
	})
	each(t, head, []faults{
		{api.ErrName, "fun f(p: int) { let y = 1; } fun k() { print ^p; }"}, {api.ErrName, "fun f(p: int) { let y = 1; } fun k() { print ^y; }"}, {api.ErrName, "fun f(p: int) { } thread { print ^p; }"}, {api.ErrName, "fun f() { let y = 1; } thread { print ^y; }"}, {api.ErrName, "thread { let y = 1; } thread { print ^y; }"},
		{api.OK, "fun f(p: int) { let y = 1; } fun k(p: real) { let y = p * p; print y; } thread { let y = nil R; let p = 1; call f(p); } thread { let y = 2; call f(y); }"},
		{api.OK, "fun f(p: int) { if p { print p; } else { loop 3 { print p; } } atomic { set n = p; } print p; }"},
		{api.ErrName, "fun f() { print ^y; } thread { let y = 1; call f(); }"},
	})
}

// P7.1: parameters and names of a Let are for ever, those of a VarStmt aren't.
func TestForEver(t *testing.T) {
	each(t, head, []faults{
		{api.OK, "fun f() { var y = 1; y = 2; y = y + 1; }"}, {api.ErrType, "fun f() { let y = 1; ^y = 2; }"}, {api.ErrType, "fun f(y: int) { ^y = 2; }"}, {api.ErrType, "fun f(x: int, y: R) { ^y = nil R; }"}, {api.OK, "fun f(x: int) { var y = x; y = 2; }"},
		{api.ErrType, "fun f() { var y = 1; let z = y; loop 2 { y = z; ^z = y; } }"}, {api.OK, "fun f() { let z = 1; var y = 1; y = z; }"},
	})
}

// P7.1: statement by statement, those within one behind it: the first counts.
func TestFirstStatement(t *testing.T) {
	each(t, head, []faults{
		{api.ErrName, "fun f() { print ^z; print nil R; } fun k() { break; } thread { break; }"}, {api.ErrType, "fun f() { print ^nil R; print z; }"},
		{api.ErrLabel, "fun f() { } fun k() { ^break; } thread { print z; }"}, {api.ErrName, "thread { print ^z; } thread { break; }"}, {api.ErrLabel, "thread { } thread { ^break; print z; }"},
		{api.ErrName, "fun f() { if 1 { loop 3 { atomic { print ^z; } } } print nil R; }"}, {api.ErrType, "fun f() { if 1 { loop 3 { atomic { print 1; } } } print ^nil R; break; }"},
		{api.ErrName, "thread { loop 3 { atomic { if 1 { print 1; } else { print ^z; } } break; } break; }"}, {api.ErrLabel, "thread { if 1 { ^break; } else { print z; } }"},
	})
}
