package lower_test

import (
	"testing"
)

// P10.1: each right side, of each type, given by Let, by VarStmt, and by Assign.
func TestRightSides(t *testing.T) {
	asThread(t, recs, locals+`atomic {
		let a = load i; let b = load x; let c = load m; let d = load r; let e = load s;
		let f = load r.v; let g = load r.x; let h = load r.m; let j = load r.r; let k = load r.s; let l = load s.a; let n = load s.b;
		let o = load m[i + 1]; let p = new R; let q = new S; let u = new ints i; let v = size m; let w = i; }`, `
		most 25 (int! real! ints! ref0! ref1! int! real! ints! ref0! ref1! int! real! ints! ref0! ref1! ref0! int! int! ref0! ref1! ints! int! int!)
		`+lines+`
		5 begin
		6 loadg d5
		7 loadg d6 n1
		8 loadg d7 n2
		9 loadg d8 n3
		10 loadg d9 n4
		11 loadf d10 s3
		12 loadf d11 s3 n1
		13 loadf d12 s3 n2
		14 loadf d13 s3 n3
		15 loadf d14 s3 n4
		16 loadf d15 s4 r1
		17 loadf d16 s4 r1 n1
		18 loade d17 s2 at[s0 1 int+]
		19 makerec d18
		20 makerec d19 r1 n1
		21 makeints d20 n2 [s0]
		22 sizeof d21 s2
		23 calc d22 [s0]
		24 leave
		25 halt`)
	asThread(t, recs, locals+`atomic {
		var a = load i; var b = load x; var c = load m; var d = load r; var e = new S;
		a = load r.v; b = load r.x; c = load r.m; d = load r.r; e = load r.s;
		a = load i; b = load x; c = load m; d = load r; e = load s;
		a = load s.b; a = load m[0]; a = load c[a]; d = new R; e = new S; c = new ints -1; a = size m; a = size c; a = -a; d = nil R; }`, `
		most 32 (int! real! ints! ref0! ref1! int real ints ref0 ref1)
		`+lines+`
		5 begin
		6 loadg d5
		7 loadg d6 n1
		8 loadg d7 n2
		9 loadg d8 n3
		10 makerec d9 r1
		11 loadf d5 s3
		12 loadf d6 s3 n1
		13 loadf d7 s3 n2
		14 loadf d8 s3 n3
		15 loadf d9 s3 n4
		16 loadg d5
		17 loadg d6 n1
		18 loadg d7 n2
		19 loadg d8 n3
		20 loadg d9 n4
		21 loadf d5 s4 r1 n1
		22 loade d5 s2 at[0]
		23 loade d5 s7 at[s5]
		24 makerec d8 n1
		25 makerec d9 r1 n2
		26 makeints d7 n3 [1 neg]
		27 sizeof d5 s2
		28 sizeof d5 s7
		29 calc d5 [s5 neg]
		30 calc d8 [0]
		31 leave
		32 halt`)
	// A size is asked outside sections, too.
	asThread(t, "", "let a = 1; let m = nil ints; let n = size m; print n;", "most 4 (int! ints! int!)\n0 calc [1]\n1 calc d1 [0]\n2 sizeof d2 s1\n3 putint [s2]\n4 halt")
}

// P10.1: Set, of each kind of place, and Print, of both types.
func TestSetAndPrint(t *testing.T) {
	asThread(t, recs, locals+`atomic {
		set i = 1; set x = x; set m = m; set r = r; set s = nil S;
		set r.v = -i; set r.x = -x; set r.m = nil ints; set r.r = r; set r.s = s; set s.a = nil R; set s.b = 4;
		set m[i * 2] = i - 3; set m[0] = 0; print i; print -x; print x < x; }
		print input 3; print real 3;`, `
		most 26 (int! real! ints! ref0! ref1!)
		`+lines+`
		5 begin
		6 storeg [1]
		7 storeg n1 [s1]
		8 storeg n2 [s2]
		9 storeg n3 [s3]
		10 storeg n4 [0]
		11 storef s3 [s0 neg]
		12 storef s3 n1 [s1 negreal]
		13 storef s3 n2 [0]
		14 storef s3 n3 [s3]
		15 storef s3 n4 [s4]
		16 storef s4 r1 [0]
		17 storef s4 r1 n1 [4]
		18 storee s2 at[s0 2 int*] [s0 3 int-]
		19 storee s2 at[0] [0]
		20 putint [s0]
		21 putreal [s1 negreal]
		22 putint [s1 s1 real<]
		23 leave
		24 putint [in3]
		25 putreal [3 widen]
		26 halt`)
}

// P10.1: If, with and without Else.
func TestIf(t *testing.T) {
	asThread(t, "", "if 1 { }", "most 1 ()\n0 zero >1 [1]\n1 halt")
	asThread(t, "", "if 1 { } else { }", "most 1 ()\n0 zero >1 [1]\n1 halt")
	asThread(t, "", "if 1 { print 2; }", "most 2 ()\n0 zero >2 [1]\n1 putint [2]\n2 halt")
	asThread(t, "", "if 1 { print 2; } else { }", "most 2 ()\n0 zero >2 [1]\n1 putint [2]\n2 halt")
	asThread(t, "", "if 1 { } else { print 3; }", "most 2 ()\n0 zero >2 [1]\n1 jump >3\n2 putint [3]\n3 halt")
	asThread(t, "", "if 1 { print 2; } else { print 3; print 4; print 5; } print 6;", `
		most 5 ()
		0 zero >3 [1]
		1 putint [2]
		2 jump >6
		3 putint [3]
		4 putint [4]
		5 putint [5]
		6 putint [6]
		7 halt`)
	// A statement that is no instruction is one, for all that.
	asThread(t, "fun f() { } ", "if 1 { call f(); } else { call f(); }", "most 2 ()\n0 zero >2 [1]\n1 jump >2\n2 halt")
	asThread(t, "", "atomic { if 1 { } else { atomic { } } }", "most 4 ()\n0 begin\n1 zero >3 [1]\n2 jump >3\n3 leave\n4 halt")
}

// P10.1: Ifs within one another, on both sides; and ends of many of them in one place.
func TestIfWithinIf(t *testing.T) {
	asThread(t, "", "if 1 { if 2 { print 3; } else { print 4; } } else { if 5 { print 6; } else { if 7 { print 8; } } } print 9;", `
		most 6 ()
		0 zero >6 [1]
		1 zero >4 [2]
		2 putint [3]
		3 jump >5
		4 putint [4]
		5 jump >11
		6 zero >9 [5]
		7 putint [6]
		8 jump >11
		9 zero >11 [7]
		10 putint [8]
		11 putint [9]
		12 halt`)
	asThread(t, "", "if 1 { if 2 { if 3 { } } }", "most 3 ()\n0 zero >3 [1]\n1 zero >3 [2]\n2 zero >3 [3]\n3 halt")
}

// P10.1: Loop, of none, one, and the most turns; what stands in it, and behind it.
func TestLoop(t *testing.T) {
	asThread(t, "", "loop 0 { }", "most 2 (int)\n0 calc [0]\n1 zero >4 [s0]\n2 calc [s0 1 int-]\n3 jump >1\n4 halt")
	asThread(t, "", "loop 1 { }", "most 5 (int)\n0 calc [1]\n1 zero >4 [s0]\n2 calc [s0 1 int-]\n3 jump >1\n4 halt")
	asThread(t, "", "print 1; loop 100 { print 2; } print 3;", `
		most 404 (int)
		0 putint [1]
		1 calc [100]
		2 zero >6 [s0]
		3 calc [s0 1 int-]
		4 putint [2]
		5 jump >2
		6 putint [3]
		7 halt`)
	// The slot of a loop comes ahead of those in it, and behind those ahead of it; one that is labelled has no other code.
	want := `
		most 14 (int! int int! int!)
		0 calc [1]
		1 calc d1 [2]
		2 zero >6 [s1]
		3 calc d1 [s1 1 int-]
		4 calc d2 [s0]
		5 jump >2
		6 calc d3 [s0]
		7 putint [s3]
		8 putint [s0]
		9 halt`
	asThread(t, "", "let a = 1; loop 2 { let b = a; } let c = a; print c; print a;", want)
	asThread(t, "", "let a = 1; o: loop 2 { let b = a; } let c = a; print c; print a;", want)
	asThread(t, "", "loop 2 { } o: loop 3 { } o: loop 4 { }", `
		most 33 (int int int)
		0 calc [2]
		1 zero >4 [s0]
		2 calc [s0 1 int-]
		3 jump >1
		4 calc d1 [3]
		5 zero >8 [s1]
		6 calc d1 [s1 1 int-]
		7 jump >5
		8 calc d2 [4]
		9 zero >12 [s2]
		10 calc d2 [s2 1 int-]
		11 jump >9
		12 halt`)
}

// P10.1: Break and Continue, of the innermost loop and by a label, ahead of all, in between, at a body's end, and alone.
func TestBreakAndContinue(t *testing.T) {
	asThread(t, "", "loop 2 { break; }", "most 10 (int)\n0 calc [2]\n1 zero >5 [s0]\n2 calc [s0 1 int-]\n3 jump >5\n4 jump >1\n5 halt")
	asThread(t, "", "loop 2 { continue; }", "most 10 (int)\n0 calc [2]\n1 zero >5 [s0]\n2 calc [s0 1 int-]\n3 jump >1\n4 jump >1\n5 halt")
	asThread(t, "", "o: loop 2 { continue o; print 1; break o; }", "most 14 (int)\n0 calc [2]\n1 zero >7 [s0]\n2 calc [s0 1 int-]\n3 jump >1\n4 putint [1]\n5 jump >7\n6 jump >1\n7 halt")
	asThread(t, "", `
		a: loop 2 {
			break; continue;
			b: loop 3 {
				break; continue; break a; continue a; break b; continue b;
				loop 4 { break; continue; break b; continue b; break a; continue a; }
				break; continue;
			}
			continue; break;
		}
		print 1;`, `
		most 315 (int int int)
		0 calc [2]
		1 zero >30 [s0]
		2 calc [s0 1 int-]
		3 jump >30
		4 jump >1
		5 calc d1 [3]
		6 zero >27 [s1]
		7 calc d1 [s1 1 int-]
		8 jump >27
		9 jump >6
		10 jump >30
		11 jump >1
		12 jump >27
		13 jump >6
		14 calc d2 [4]
		15 zero >24 [s2]
		16 calc d2 [s2 1 int-]
		17 jump >24
		18 jump >15
		19 jump >27
		20 jump >6
		21 jump >30
		22 jump >1
		23 jump >15
		24 jump >27
		25 jump >6
		26 jump >6
		27 jump >1
		28 jump >30
		29 jump >1
		30 putint [1]
		31 halt`)
	// Through Ifs; in a section, at whose end the loop's own is.
	asThread(t, "", "atomic { loop 2 { if 1 { break; } else { continue; } } }", `
		most 16 (int)
		0 begin
		1 calc [2]
		2 zero >9 [s0]
		3 calc [s0 1 int-]
		4 zero >7 [1]
		5 jump >9
		6 jump >8
		7 jump >2
		8 jump >2
		9 leave
		10 halt`)
}

// P10.1: a label that stands outside a section, and in it anew, means the inner loop in it, and the outer one behind it.
func TestLabelInSection(t *testing.T) {
	asThread(t, "", "o: loop 2 { atomic { o: loop 3 { break o; continue o; } } continue o; break o; }", `
		most 50 (int int)
		0 calc [2]
		1 zero >14 [s0]
		2 calc [s0 1 int-]
		3 begin
		4 calc d1 [3]
		5 zero >10 [s1]
		6 calc d1 [s1 1 int-]
		7 jump >10
		8 jump >5
		9 jump >5
		10 leave
		11 jump >1
		12 jump >14
		13 jump >1
		14 halt`)
}

// P10.1: Atomic, of nothing, of several statements, and within another one: there it is its Body alone, however deep.
func TestAtomic(t *testing.T) {
	asThread(t, "", "atomic { }", "most 2 ()\n0 begin\n1 leave\n2 halt")
	same(t, "global n: int; thread { print 1; atomic { let x = load n; set n = x; } atomic { print 2; } }", `
		globals (int)
		section 0@1-4
		section 0@5-7
		thread most 8 (int!)
		0 putint [1]
		1 begin
		2 loadg
		3 storeg [s0]
		4 leave
		5 begin n1
		6 putint [2]
		7 leave n1
		8 halt`)
	same(t, "global n: int; thread { atomic { atomic { } print 1; if 1 { atomic { let x = load n; atomic { print x; } } } loop 2 { atomic { set n = 1; } } } atomic { atomic { print 2; } } }", `
		globals (int)
		section 0@0-10
		section 0@11-13
		thread most 19 (int! int)
		0 begin
		1 putint [1]
		2 zero >5 [1]
		3 loadg
		4 putint [s0]
		5 calc d1 [2]
		6 zero >10 [s1]
		7 calc d1 [s1 1 int-]
		8 storeg [1]
		9 jump >6
		10 leave
		11 begin n1
		12 putint [2]
		13 leave n1
		14 halt`)
}

// P10.1: a name that is given anew behind a block's end gets a new slot, and what is named before and behind it is told apart.
func TestNamesAnew(t *testing.T) {
	asThread(t, "", "if 1 { let a = 2; print a; } else { var a = real 3; print a; a = a; } let a = 4; print a;", `
		most 6 (int! real int!)
		0 zero >4 [1]
		1 calc [2]
		2 putint [s0]
		3 jump >7
		4 calc d1 [3 widen]
		5 putreal [s1]
		6 calc d1 [s1]
		7 calc d2 [4]
		8 putint [s2]
		9 halt`)
	asThread(t, "", "loop 1 { let a = 1; } atomic { let a = nil ints; atomic { let b = a; } let b = size a; } let b = real 1; let a = b; print a;", `
		most 14 (int int! ints! ints! int! real! real!)
		0 calc [1]
		1 zero >5 [s0]
		2 calc [s0 1 int-]
		3 calc d1 [1]
		4 jump >1
		5 begin
		6 calc d2 [0]
		7 calc d3 [s2]
		8 sizeof d4 s2
		9 leave
		10 calc d5 [1 widen]
		11 calc d6 [s5]
		12 putreal [s6]
		13 halt`)
}
