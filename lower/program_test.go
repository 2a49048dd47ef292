package lower_test

import "testing"

// The chapter's example.
func TestExample(t *testing.T) {
	same(t, "thread { print 1; }", `
		thread most 1 ()
		0 putint [1]
		1 halt`)
}

// P10.1: programs of nothing, or nearly so.
func TestNothing(t *testing.T) {
	same(t, "", "")
	same(t, "thread { }", `
		thread most 0 ()
		0 halt`)
	same(t, "thread { } thread { } thread { } thread { }", `
		thread most 0 ()
		0 halt
		thread most 0 ()
		0 halt
		thread most 0 ()
		0 halt
		thread most 0 ()
		0 halt`)
	same(t, "record R { }", "record ()")
	same(t, "global n: int;", "globals (int)")
	same(t, "fun f(a: int) { loop 3 { atomic { let x = new ints 3; } } }", "")
	same(t, "fun f() { } thread { call f(); }", `
		thread most 0 ()
		0 halt`)
}

// P10.1: ordinary programs.
func TestOrdinary(t *testing.T) {
	add := "thread { loop 3 { atomic { let x = load n; set n = x + 1; } } }\n"
	same(t, "global n: int;"+add+add, `
		globals (int)
		section 0@3-6
		section 1@3-6
		thread most 23 (int int!)
		0 calc [3]
		1 zero >8 [s0]
		2 calc [s0 1 int-]
		3 begin
		4 loadg d1
		5 storeg [s1 1 int+]
		6 leave
		7 jump >1
		8 halt
		thread most 23 (int int!)
		0 calc [3]
		1 zero >8 [s0]
		2 calc [s0 1 int-]
		3 begin n1
		4 loadg d1
		5 storeg [s1 1 int+]
		6 leave n1
		7 jump >1
		8 halt`)
	same(t, `record Node { value: int; next: Node; }
		global count: int; global first: Node;
		fun push(value: int) {
			let node = new Node;
			let first = load first;
			set node.value = value; set node.next = first; set first = node;
		}
		fun sum() {
			var at = load first; var all = 0;
			loop 9 {
				if at == nil Node { break; }
				let one = load at.value;
				all = all + one;
				at = load at.next;
			}
			print all;
		}
		thread { atomic { call push(input 0); call push(2); } atomic { call sum(); } }`, `
		record (int ref0)
		globals (int ref0)
		site 0@2 0
		site 0@8 0
		section 0@0-13
		section 0@14-27
		thread most 93 (int! ref0! ref0! int! ref0! ref0! ref0 int int int!)
		0 begin
		1 calc [in0]
		2 makerec d1
		3 loadg d2 n1
		4 storef s1 [s0]
		5 storef s1 n1 [s2]
		6 storeg n1 [s1]
		7 calc d3 [2]
		8 makerec d4 n1
		9 loadg d5 n1
		10 storef s4 [s3]
		11 storef s4 n1 [s5]
		12 storeg n1 [s4]
		13 leave
		14 begin n1
		15 loadg d6 n1
		16 calc d7 [0]
		17 calc d8 [9]
		18 zero >26 [s8]
		19 calc d8 [s8 1 int-]
		20 zero >22 [s6 0 ref==]
		21 jump >26
		22 loadf d9 s6
		23 calc d7 [s7 s9 int+]
		24 loadf d6 s6 n1
		25 jump >18
		26 putint [s7]
		27 leave n1
		28 halt`)
}

// P10.1: records and globals of each type, in the program's order, whatever stands between.
func TestRecordsAndGlobals(t *testing.T) {
	same(t, `record A { }
		global g: C; record B { i: int; x: real; m: ints; a: A; b: B; c: C; }
		global i: int; global x: real; fun B() { } global m: ints; global a: A; record C { c: C; a: A; }
		thread { } global b: B;`, `
		record ()
		record (int real ints ref0 ref1 ref2)
		record (ref2 ref0)
		globals (ref2 int real ints ref0 ref1)
		thread most 0 ()
		0 halt`)
	same(t, rows(6, "record r@ { a: r0; b: r1; c: r2; d: r3; e: r4; f: r5; }")+rows(8, "global g@: r5;"),
		rows(6, "record (ref0 ref1 ref2 ref3 ref4 ref5)\n")+"globals (ref5 ref5 ref5 ref5 ref5 ref5 ref5 ref5)")
}

// P10.1: slots as the statements of each thread come; sites and sections over all of them.
func TestNumbers(t *testing.T) {
	same(t, `record R { } record S { }
		fun make(n: int) { atomic { let s = new S; } }
		fun none() { atomic { let s = new ints 5; } }
		thread { print 1; atomic { let r = new R; var m = new ints 3; } call make(4); }
		thread { }
		thread { call make(7); atomic { } let x = 1; atomic { var s = new S; s = new S; if 1 { let r = new R; } } }
		thread { call make(8); }`, `
		record ()
		record ()
		site 0@2 0
		site 0@3 -1
		site 0@7 1
		site 2@2 1
		site 2@8 1
		site 2@9 1
		site 2@11 0
		site 3@2 1
		section 0@1-4
		section 0@6-8
		section 2@1-3
		section 2@4-5
		section 2@7-12
		section 3@1-3
		thread most 9 (ref0! ints int! ref1!)
		0 putint [1]
		1 begin
		2 makerec
		3 makeints d1 n1 [3]
		4 leave
		5 calc d2 [4]
		6 begin n1
		7 makerec d3 r1 n2
		8 leave n1
		9 halt
		thread most 0 ()
		0 halt
		thread most 13 (int! ref1! int! ref1 ref0!)
		0 calc [7]
		1 begin n2
		2 makerec d1 r1 n3
		3 leave n2
		4 begin n3
		5 leave n3
		6 calc d2 [1]
		7 begin n4
		8 makerec d3 r1 n4
		9 makerec d3 r1 n5
		10 zero >12 [1]
		11 makerec d4 n6
		12 leave n4
		13 halt
		thread most 4 (int! ref1!)
		0 calc [8]
		1 begin n5
		2 makerec d1 r1 n7
		3 leave n5
		4 halt`)
}
