package lower_test

import "testing"

// P10.1: Call, with no argument, and with several ones, of each type, in order.
func TestCall(t *testing.T) {
	asThread(t, "fun f() { print 1; } ", "print 0; call f(); print 2;", "most 3 ()\n0 putint [0]\n1 putint [1]\n2 putint [2]\n3 halt")
	asThread(t, recs+"fun f(i: int, x: real, m: ints, r: R, s: S, j: int) { print j; print x; atomic { set r.s = s; set m[i] = j; } } ",
		"let a = 1; call f(a, real 2, nil ints, nil R, nil S, a + 3); print a;", `
		most 14 (int! int! real! ints! ref0! ref1! int!)
		0 calc [1]
		1 calc d1 [s0]
		2 calc d2 [2 widen]
		3 calc d3 [0]
		4 calc d4 [0]
		5 calc d5 [0]
		6 calc d6 [s0 3 int+]
		7 putint [s6]
		8 putreal [s2]
		9 begin
		10 storef s4 n4 [s5]
		11 storee s3 at[s1] [s6]
		12 leave
		13 putint [s0]
		14 halt`)
}

// P10.1: a function that is called twice is put in both places, with slots of its own in each.
func TestCalledTwice(t *testing.T) {
	same(t, "record R { } fun f(a: int) { var b = a; loop 2 { b = b + 1; } atomic { let r = new R; } } thread { call f(1); call f(2); } thread { call f(3); }", `
		record ()
		site 0@8 0
		site 0@18 0
		site 1@8 0
		section 0@7-9
		section 0@17-19
		section 1@7-9
		thread most 30 (int! int int ref0! int! int int ref0!)
		0 calc [1]
		1 calc d1 [s0]
		2 calc d2 [2]
		3 zero >7 [s2]
		4 calc d2 [s2 1 int-]
		5 calc d1 [s1 1 int+]
		6 jump >3
		7 begin
		8 makerec d3
		9 leave
		10 calc d4 [2]
		11 calc d5 [s4]
		12 calc d6 [2]
		13 zero >17 [s6]
		14 calc d6 [s6 1 int-]
		15 calc d5 [s5 1 int+]
		16 jump >13
		17 begin n1
		18 makerec d7 n1
		19 leave n1
		20 halt
		thread most 15 (int! int int ref0!)
		0 calc [3]
		1 calc d1 [s0]
		2 calc d2 [2]
		3 zero >7 [s2]
		4 calc d2 [s2 1 int-]
		5 calc d1 [s1 1 int+]
		6 jump >3
		7 begin n2
		8 makerec d3 n2
		9 leave n2
		10 halt`)
}

// P10.1: functions that call others, that stand ahead and behind; slots come as the statements do.
func TestCallsOfCalls(t *testing.T) {
	asThread(t, "fun f(a: int) { let b = a + 1; call h(b, a); let c = b; print c; } fun g() { call f(5); call h(6, 7); } fun h(a: int, b: int) { print a; print b; } ",
		"call g(); call f(8);", `
		most 20 (int! int! int! int! int! int! int! int! int! int! int! int!)
		0 calc [5]
		1 calc d1 [s0 1 int+]
		2 calc d2 [s1]
		3 calc d3 [s0]
		4 putint [s2]
		5 putint [s3]
		6 calc d4 [s1]
		7 putint [s4]
		8 calc d5 [6]
		9 calc d6 [7]
		10 putint [s5]
		11 putint [s6]
		12 calc d7 [8]
		13 calc d8 [s7 1 int+]
		14 calc d9 [s8]
		15 calc d10 [s7]
		16 putint [s9]
		17 putint [s10]
		18 calc d11 [s8]
		19 putint [s11]
		20 halt`)
}

// P10.1: parameters hide nothing from the arguments, however they are called; the body sees its parameters alone, and may give all other names anew; behind it the caller's are there again.
func TestNamesOfCalls(t *testing.T) {
	asThread(t, "fun f(a: int, b: int) { print a; print b; let c = real a; print c; call g(b, c); print a; } fun g(a: int, b: real) { let c = b; print c; var d = a; d = d; } ",
		"let b = 1; let a = 2; let c = 3; call f(b, a); print a; print b; print c; let d = nil ints; let e = size d;", `
		most 21 (int! int! int! int! int! real! int! real! real! int ints! int!)
		0 calc [1]
		1 calc d1 [2]
		2 calc d2 [3]
		3 calc d3 [s0]
		4 calc d4 [s1]
		5 putint [s3]
		6 putint [s4]
		7 calc d5 [s3 widen]
		8 putreal [s5]
		9 calc d6 [s4]
		10 calc d7 [s5]
		11 calc d8 [s7]
		12 putreal [s8]
		13 calc d9 [s6]
		14 calc d9 [s9]
		15 putint [s3]
		16 putint [s1]
		17 putint [s0]
		18 putint [s2]
		19 calc d10 [0]
		20 sizeof d11 s10
		21 halt`)
	// The first parameter is called as what the second argument names, and the other way round.
	asThread(t, "fun f(a: int, b: int, c: int) { print a - b - c; } ", "let a = 1; let b = 2; let c = 3; call f(c, a, b); call f(b + a, b + a, a);", `
		most 11 (int! int! int! int! int! int! int! int! int!)
		0 calc [1]
		1 calc d1 [2]
		2 calc d2 [3]
		3 calc d3 [s2]
		4 calc d4 [s0]
		5 calc d5 [s1]
		6 putint [s3 s4 int- s5 int-]
		7 calc d6 [s1 s0 int+]
		8 calc d7 [s1 s0 int+]
		9 calc d8 [s0]
		10 putint [s6 s7 int- s8 int-]
		11 halt`)
}

// P10.1: one name for all that has names: each is found where it is looked for.
func TestOneNameForAll(t *testing.T) {
	same(t, `record y { } record x { a: int; x: x; } global z: int; global x: x;
		fun z() { } fun x(x: x) { x: loop 2 { break x; } atomic { let y = load x.x; set x = y; set x.x = x; } }
		thread { x: loop 2 { continue x; } let x = nil x; call x(x); }`, `
		record ()
		record (int ref1)
		globals (int ref1)
		section 0@12-16
		thread most 27 (int ref1! ref1! int ref1!)
		0 calc [2]
		1 zero >5 [s0]
		2 calc [s0 1 int-]
		3 jump >1
		4 jump >1
		5 calc d1 [0]
		6 calc d2 [s1]
		7 calc d3 [2]
		8 zero >12 [s3]
		9 calc d3 [s3 1 int-]
		10 jump >12
		11 jump >8
		12 begin
		13 loadf d4 s2 r1 n1
		14 storeg n1 [s4]
		15 storef s2 r1 n1 [s2]
		16 leave
		17 halt`)
}

// P10.1: the loops of a caller aren't those of what it calls, even if they have one label; they are there again behind it.
func TestLoopsOfCalls(t *testing.T) {
	asThread(t, "fun f() { o: loop 2 { break o; continue; } } ", "o: loop 3 { call f(); continue; break o; }", `
		most 53 (int int)
		0 calc [3]
		1 zero >12 [s0]
		2 calc [s0 1 int-]
		3 calc d1 [2]
		4 zero >9 [s1]
		5 calc d1 [s1 1 int-]
		6 jump >9
		7 jump >4
		8 jump >4
		9 jump >1
		10 jump >12
		11 jump >1
		12 halt`)
}

// P10.1: an Atomic of a function is a section where the function is called outside all of them, and its Body alone where it is called in one, through others, too.
func TestAtomicOfFunction(t *testing.T) {
	same(t, "global n: int; fun f() { atomic { set n = 1; } print 2; } fun g() { call f(); atomic { call f(); } } thread { call f(); atomic { call f(); } call g(); atomic { print 3; call g(); print 4; } call f(); }", `
		globals (int)
		section 0@0-2
		section 0@4-7
		section 0@8-10
		section 0@12-15
		section 0@16-23
		section 0@24-26
		thread most 28 ()
		0 begin
		1 storeg [1]
		2 leave
		3 putint [2]
		4 begin n1
		5 storeg [1]
		6 putint [2]
		7 leave n1
		8 begin n2
		9 storeg [1]
		10 leave n2
		11 putint [2]
		12 begin n3
		13 storeg [1]
		14 putint [2]
		15 leave n3
		16 begin n4
		17 putint [3]
		18 storeg [1]
		19 putint [2]
		20 storeg [1]
		21 putint [2]
		22 putint [4]
		23 leave n4
		24 begin n5
		25 storeg [1]
		26 leave n5
		27 putint [2]
		28 halt`)
	// What touches the shared without an Atomic of its own, called in one.
	same(t, "record R { n: int; } global r: R; fun f(x: R, n: int) { set x.n = n; let y = load x.n; var z = new R; set r = z; } thread { atomic { let x = load r; call f(x, 3); } }", `
		record (int)
		globals (ref0)
		site 0@6 0
		section 0@0-8
		thread most 9 (ref0! ref0! int! int! ref0)
		0 begin
		1 loadg
		2 calc d1 [s0]
		3 calc d2 [3]
		4 storef s1 [s2]
		5 loadf d3 s1
		6 makerec d4
		7 storeg [s4]
		8 leave
		9 halt`)
}

// P10.1: Once: of a Let, and of a parameter, wherever it stands; not of a VarStmt, even without an Assign, nor of a loop's slot.
func TestOnce(t *testing.T) {
	asThread(t, "fun f(a: int, b: ints) { let c = a; var d = b; loop 1 { let e = c; var g = d; } } ", "let a = 1; var b = 2; loop 1 { call f(a, nil ints); let c = 3; var d = 4; } var e = real 1; e = e; let g = e; loop 0 { }", `
		most 25 (int! int int int! ints! int! ints int int! ints int! int real real! int)
		0 calc [1]
		1 calc d1 [2]
		2 calc d2 [1]
		3 zero >18 [s2]
		4 calc d2 [s2 1 int-]
		5 calc d3 [s0]
		6 calc d4 [0]
		7 calc d5 [s3]
		8 calc d6 [s4]
		9 calc d7 [1]
		10 zero >15 [s7]
		11 calc d7 [s7 1 int-]
		12 calc d8 [s5]
		13 calc d9 [s6]
		14 jump >10
		15 calc d10 [3]
		16 calc d11 [4]
		17 jump >3
		18 calc d12 [1 widen]
		19 calc d12 [s12]
		20 calc d13 [s12]
		21 calc d14 [0]
		22 zero >25 [s14]
		23 calc d14 [s14 1 int-]
		24 jump >22
		25 halt`)
}
