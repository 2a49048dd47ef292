package lower_test

import (
	"fmt"
	"math/big"
	"strings"
	"testing"

	"padlock/api"
	"padlock/lower"
)

// P10.1: Most of each kind of statement, of each right side, and of rows of them.
func TestMost(t *testing.T) {
	for stmts, want := range map[string]int{
		"": 0, "print 1;": 1, "print 1; print real 2;": 2, rows(200, "print 1;"): 200,
		"let y = 1;": 1, "var y = 1; y = 2; y = 3;": 3, "let m = nil ints; let y = size m;": 2,
		"atomic { let y = load i; }": 3, "atomic { let y = load m; let z = load y[3]; set y[2] = 1; let u = new ints 3; set m = u; }": 7,
		"atomic { let y = load r; let z = load y.v; set y.v = 2; let u = new R; var w = u; w = load r; set r = u; }": 9,
		"if 1 { }": 1, "if 1 { } else { }": 1, "if 1 { print 1; }": 2, "if 1 { print 1; print 2; }": 3, "if 1 { print 1; } else { }": 2,
		// The Body is 1 more, if there is something in Else; Else isn't.
		"if 1 { } else { print 1; }": 2, "if 1 { } else { print 1; print 2; }": 3, "if 1 { print 1; } else { print 1; }": 3, "if 1 { print 1; } else { print 1; print 2; }": 3,
		"if 1 { print 1; } else { print 1; print 2; print 3; }": 4, "if 1 { print 1; print 2; } else { print 1; }": 4, "if 1 { print 1; print 2; print 3; } else { print 1; }": 5,
		"if 1 { } else { call f(); }": 2, "if 1 { print 1; } else { call f(); }": 3, "if 1 { } else { if 1 { } else { print 1; } }": 3, "if 1 { if 1 { print 1; } else { print 2; } } else { print 3; }": 5,
		"loop 0 { }": 2, "loop 1 { }": 5, "loop 2 { }": 8, "loop 100 { }": 302, "loop 0 { print 1; }": 2, "loop 1 { print 1; }": 6, "loop 7 { print 1; print 2; }": 37, "o: loop 7 { print 1; print 2; }": 37,
		"loop 3 { loop 4 { print 1; } }": 2 + 3*(3+2+4*4), "loop 3 { loop 0 { print 1; } }": 17, "loop 0 { loop 3 { print 1; } }": 2, "loop 1 { } loop 2 { }": 13,
		"loop 2 { break; }": 10, "loop 2 { continue; }": 10, "o: loop 2 { break o; continue o; }": 12, "loop 2 { if 1 { break; } else { print 1; } }": 14,
		"atomic { }": 2, "atomic { print 1; }": 3, "atomic { } atomic { }": 4, "atomic { atomic { } }": 2, "atomic { atomic { print 1; } atomic { atomic { print 2; } } }": 4, "loop 2 { atomic { } }": 12,
		"call f();": 0, "call g(1);": 2, "call h(1, 2);": 2, "call g(1); call h(1, 2); call f();": 4, "call k();": 8, "atomic { call k(); }": 8, "atomic { call l(); }": 4, "call l();": 4, "loop 2 { call l(); }": 16,
	} {
		most(t, "record R { v: int; } global i: int; global m: ints; global r: R; fun f() { } fun g(a: int) { print a; } fun h(a: int, b: int) { } fun l() { atomic { call g(3); } } fun k() { call l(); call g(4); call h(5, 6); } ", stmts, want)
	}
}

// turns: so many loops within one another, of so many turns each, and their Most, however great.
func turns(deep, n int, innermost string, of *big.Int) (string, *big.Int) {
	text := strings.Repeat(fmt.Sprintf("loop %d { ", n), deep) + innermost + strings.Repeat(" }", deep)
	for range deep {
		of = new(big.Int).Add(of, big.NewInt(3))
		of.Mul(of, big.NewInt(int64(n))).Add(of, big.NewInt(2))
	}
	return text, of
}

// P10.1: the most steps, at the limit and one above it; and of more steps than 64 bits tell.
func TestMostSteps(t *testing.T) {
	at := "loop 100 { " + rows(37, "print 1;") + " }" + rows(94, "print 1;")
	most(t, "", at, api.MaxSteps)
	refused(t, "one more", "\n ^thread { "+at+" print 1; }")
	refused(t, "in a loop", "^thread { loop 1 { "+at+" } }")
	most(t, "", "loop 0 { "+at+" print 1; }", 2)
	most(t, "fun f() { "+at+" } ", "call f();", api.MaxSteps)
	refused(t, "one argument", "fun f(a: int) { "+at+" } ^thread { call f(1); }")
	most(t, "fun f() { "+at+" print 1; } ", "loop 0 { call f(); } ", 2)
	refused(t, "a section", "^thread { atomic { "+at+" } }")
	refused(t, "in Body", "^thread { if 1 { "+at+" } else { } }")
	refused(t, "in Else", "^thread { if 1 { } else { "+at+" } }")
	less := strings.TrimSuffix(at, "print 1;")
	most(t, "", "if 1 { "+less+" }", api.MaxSteps)
	most(t, "", "if 1 { } else { "+less+" }", api.MaxSteps)
	refused(t, "Body, and the jump", "^thread { if 1 { "+less+" } else { print 2; } }")
	limit := big.NewInt(api.MaxSteps)
	for n := range api.MaxLoop + 1 {
		for deep := range api.MaxDepth {
			text, of := turns(deep, n, "", big.NewInt(0))
			mark := ""
			if of.Cmp(limit) > 0 {
				mark = "^"
			} else {
				most(t, "", text, int(of.Int64()))
			}
			refused(t, text, mark+"thread { "+text+" }")
			if deep < api.MaxDepth-1 {
				most(t, "", "loop 0 { "+text+" }", 2)
				most(t, "fun f() { "+text+" } ", "loop 0 { call f(); }", 2)
			}
		}
	}
	// Functions with loops within one another, of which each calls the next one in its innermost loop.
	for _, n := range []int{0, 1, 2, 4, 8, 16, 32, 64, 99, 100} {
		of, text := big.NewInt(0), ""
		for i := range 8 {
			var body string
			body, of = turns(5, n, fmt.Sprintf("call f%d();", i-1), of)
			text += fmt.Sprintf("fun f%d() { %s }\n", i, body)
		}
		text = strings.Replace(text, "call f-1();", "", 1)
		if of.Cmp(limit) > 0 {
			text += "^"
		}
		refused(t, text, text+"thread { call f7(); }")
	}
}

// P10.1: instructions, of any kind, at the limit (the Halt is one, too), and one above it.
func TestMostInstructions(t *testing.T) {
	for stmts, n := range map[string]int{
		"print 1;": 1, "if 1 { }": 1, "if 1 { } else { print 1; }": 3, "loop 1 { }": 4, "loop 1 { break; continue; }": 6, "atomic { }": 2, "atomic { set n = 1; }": 3, "call f(1);": 2, "let m = nil ints; let x = size m;": 2, "loop 0 { print 1; }": 5,
	} {
		stmts += " "
		ahead, head := rows(255-n, "print 1;"), "global n: int; fun f(a: int) { print a; } "
		refused(t, stmts, head+"thread { "+ahead+stmts+"}")
		refused(t, stmts, head+"^thread { "+ahead+"print 2; "+stmts+"}")
		refused(t, stmts, head+"^thread { "+stmts+ahead+"print 2; }")
		refused(t, stmts, head+"^thread { loop 0 { "+rows(251-n, "print 1;")+stmts+" print 1; } }")
		refused(t, stmts, head+"thread { loop 0 { "+rows(251-n, "print 1;")+stmts+" } }")
	}
	refused(t, "in functions", "fun f() { "+rows(85, "print 1;")+" } thread { call f(); call f(); call f(); }")
	refused(t, "in functions", "fun f() { "+rows(85, "print 1;")+" } ^thread { call f(); print 1; call f(); call f(); }")
	refused(t, "in a function that nobody calls", "fun f() { "+rows(300, "print 1;")+" } thread { }")
	refused(t, "as long as a text may be", "^thread { "+rows(1000, "print 1;")+" }")
}

// P10.1: slots, of all that has one, at the limit and one above it.
func TestMostSlots(t *testing.T) {
	for stmts, n := range map[string]int{
		"let x = 1; ": 1, "var x = 1; x = 2; ": 1, "loop 1 { } ": 1, "if 1 { let x = 1; } else { let x = 2; } ": 2, "call f(1, 2); ": 4, "loop 0 { let x = 1; } ": 2, "atomic { let x = new ints 2; } ": 1,
	} {
		head := "fun f(a: int, b: int) { let c = a; loop 1 { } } "
		refused(t, stmts, head+"thread { "+rows(64-n, "let a@ = 1;")+stmts+" print 1; }")
		refused(t, stmts, head+"^thread { "+rows(65-n, "let a@ = 1;")+stmts+" print 1; }")
		refused(t, stmts, head+"^thread { "+stmts+rows(65-n, "let a@ = 1;")+" print 1; }")
	}
	refused(t, "in functions", "fun f() { "+rows(16, "let a@ = 1;")+" } thread { "+rows(4, "call f();")+" }")
	refused(t, "in functions", "fun f() { "+rows(16, "let a@ = 1;")+" } ^thread { "+rows(4, "call f();")+" let x = 1; }")
	refused(t, "of threads each", rows(4, "thread { "+strings.ReplaceAll(rows(64, "let a@ = 1;"), "@", "")+" } "))
	refused(t, "in a function that nobody calls", "fun f() { "+rows(100, "let a@ = 1;")+" } thread { }")
}

// P10.1: items of an expression, wherever one stands, at the limit and one above it.
func TestMostItems(t *testing.T) {
	at, above := strings.Repeat("1 + ", 31)+"-1", strings.Repeat("1 + ", 31)+"--1"
	head := "global n: int; fun f(a: int, b: int) { } fun g(a: int, b: int) { print @; } "
	for _, stmts := range []string{
		"let x = @;", "var x = @;", "var x = 1; x = @;", "print @;", "if @ { }", "call f(@, 1);", "call f(1, @);", "let m = nil ints; atomic { let x = new ints @; }", "atomic { set n = @; }",
		"let m = nil ints; atomic { set m[@] = 1; }", "let m = nil ints; atomic { set m[0] = @; }", "let m = nil ints; atomic { let x = load m[@]; }", "loop 0 { print @; }", "call g(1, 2);", "if 1 { } else { print @; }",
	} {
		for items, mark := range map[string]string{at: "", above: "^", at + "+ 1": "^", strings.Repeat("1 + ", 500) + "1": "^"} {
			with := func(text string) string { return strings.ReplaceAll(text, "@", items) }
			refused(t, stmts, with(head)+mark+"thread { "+with(stmts)+" }")
			refused(t, "nobody calls it", with(head)+"thread { }")
		}
	}
	c := lowered(t, "thread { print "+at+"; }")
	if n := len(c.Threads[0].Code[0].Items); n != api.MaxItems {
		t.Error(n)
	}
	refused(t, "of two expressions", "thread { let m = nil ints; atomic { set m["+at+"] = "+at+"; } print "+at+"; }")
}

// P10.1: Calls put in their places, those within others too, at the limit and one above it.
func TestMostCalls(t *testing.T) {
	head := "fun f() { } fun g() { call f(); call f(); call f(); } fun h() { call g(); call g(); call g(); print 1; } "
	for stmts, n := range map[string]int{"call f();": 1, "call g();": 4, "call h();": 13, "if 1 { call f(); } else { call g(); }": 5, "loop 0 { call g(); }": 4, "loop 3 { call g(); }": 4, "atomic { call h(); }": 13} {
		refused(t, stmts, head+"thread { "+rows(256-n, "call f();")+stmts+" print 1; }")
		refused(t, stmts, head+"^thread { "+rows(257-n, "call f();")+stmts+" print 1; }")
		refused(t, stmts, head+"^thread { "+stmts+rows(257-n, "call f();")+" print 1; }")
	}
	refused(t, "of threads each", head+rows(3, "thread { "+strings.Repeat("call f();", 256)+" } "))
	refused(t, "fourfold", "fun f() { } fun g() { "+rows(15, "call f();")+" } fun h() { "+rows(4, "call g();")+" } thread { "+rows(3, "call h();")+rows(61, "call f();")+" }")
	refused(t, "fourfold", "fun f() { } fun g() { "+rows(15, "call f();")+" } fun h() { "+rows(4, "call g();")+" } ^thread { "+rows(3, "call h();")+rows(62, "call f();")+" }")
}

// P10.1: sites, at the limit and one above it, of one thread, and of all up to one.
func TestMostSites(t *testing.T) {
	sites := func(n int) string {
		return "atomic { " + strings.Repeat("m = new ints 1; r = new R; ", n/2) + strings.Repeat("r = new R;", n%2) + " } "
	}
	head := "record R { } fun f() { atomic { var m = new ints 2; var r = new R; m = new ints 3; r = new R; } } "
	begin := "thread { var m = nil ints; var r = nil R; "
	refused(t, "one thread", head+begin+sites(32)+"}")
	refused(t, "one thread", head+"^"+begin+sites(33)+"}")
	refused(t, "within loops", head+begin+"loop 0 { "+sites(32)+"} }")
	refused(t, "within loops", head+"^"+begin+"loop 0 { "+sites(33)+"} }")
	refused(t, "of functions", head+begin+rows(8, "call f();")+"}")
	refused(t, "of functions", head+"^"+begin+rows(8, "call f();")+sites(1)+"}")
	refused(t, "of two threads", head+begin+sites(20)+"} "+begin+sites(12)+"}")
	refused(t, "of two threads", head+begin+sites(20)+"}\n^"+begin+sites(13)+"}")
	refused(t, "of four threads", head+rows(4, begin+rows(2, "call f();")+"} "))
	refused(t, "of four threads", head+begin+sites(10)+"} "+begin+sites(10)+"} "+begin+sites(12)+"} ^"+begin+sites(1)+"}")
	refused(t, "of three threads, and one of none", head+begin+sites(10)+"} "+begin+sites(10)+"}\n "+begin+sites(12)+"} "+begin+sites(0)+"}")
	refused(t, "in functions that nobody calls", "record R { } fun f() { var m = nil ints; var r = nil R; "+sites(40)+"} thread { }")
}

// P10.1: sections, at the limit and one above it, of one thread, and of all up to one; those within others aren't counted.
func TestMostSections(t *testing.T) {
	head := "fun f() { atomic { } atomic { } } "
	sections := func(n int) string { return strings.Repeat("atomic { } ", n) }
	refused(t, "one thread", "thread { "+sections(32)+"}")
	refused(t, "one thread", "^thread { "+sections(33)+"}")
	refused(t, "within others", "thread { "+sections(31)+"atomic { "+sections(40)+"} }")
	refused(t, "of functions", head+"thread { "+rows(16, "call f();")+"}")
	refused(t, "of functions", head+"^thread { "+rows(16, "call f();")+sections(1)+"}")
	refused(t, "of functions, in a section", head+"thread { atomic { "+rows(40, "call f();")+"} "+sections(31)+"}")
	refused(t, "of two threads", "thread { "+sections(30)+"} thread { "+sections(2)+"}")
	refused(t, "of two threads", "thread { "+sections(30)+"}\n\n  ^thread { "+sections(3)+"}")
	refused(t, "of four threads", head+rows(4, "thread { "+rows(4, "call f();")+"} "))
	refused(t, "of four threads", head+rows(3, "thread { "+rows(5, "call f();")+"} ")+"^thread { "+rows(1, "call f();")+sections(1)+"}")
	refused(t, "in functions that nobody calls", "fun f() { "+sections(40)+"} thread { }")
}

// P10.1: of several threads that are too great, by one limit or by several ones, the first one's place is told.
func TestFirstThreadIsTold(t *testing.T) {
	fine, head := "thread { print 1; atomic { let m = new ints 2; } } ", "fun f() { } "
	great := []string{
		"thread { " + rows(256, "print 1;") + " }\n", "thread { " + rows(65, "let a@ = 1;") + " }\n", "thread { print " + rows(33, "1 + ") + "1; }\n", "thread { " + rows(257, "call f();") + " }\n",
		"thread { loop 100 { loop 100 { } } }\n", "thread { atomic { " + rows(33, "let a@ = new ints 1;") + " } }\n", "thread { " + rows(33, "atomic { }") + " }\n",
	}
	for i, one := range great {
		for j, other := range great {
			refused(t, fmt.Sprint(i, j), head+"^"+one+other)
			refused(t, fmt.Sprint(i, j), head+fine+"\n ^"+one+fine+other)
			refused(t, fmt.Sprint(i, j), head+fine+fine+"\t^"+one+other)
			refused(t, fmt.Sprint(i, j), head+fine+fine+fine+"^"+one)
		}
	}
	// Sites and sections of the threads ahead make one too great that wouldn't be alone; what is behind doesn't count any more.
	refused(t, "sites", "thread { atomic { "+rows(32, "let a@ = new ints 1;")+" } }\n^"+fine+"\n"+fine)
	refused(t, "sections", "thread { "+rows(32, "atomic { }")+" }\n^"+fine+"\n"+fine)
	refused(t, "sections, and then prints", "thread { "+rows(30, "atomic { }")+" } thread { atomic { } } "+fine+"\n^thread { atomic { } } ")
	refused(t, "prints, and then sections", head+"thread { "+rows(30, "atomic { }")+" } ^"+great[0]+" thread { "+rows(3, "atomic { }")+" } ")
}

// P10.1: functions of which each calls the next one as often as there is room for: on more ways than can be gone; it is told all the same, and nothing is wrong as long as nobody calls them.
func TestMoreWaysThanCanBeGone(t *testing.T) {
	for _, inner := range []string{"", "let a = 1; ", "print 1; ", "loop 0 { } ", "atomic { } ", "if 1 { } "} {
		text := ""
		for i := range 8 {
			text += fmt.Sprintf("fun f%d() { %s", i, inner)
			if i < 7 {
				text += rows(70, fmt.Sprintf("call f%d(); ", i+1))
			}
			text += "} "
		}
		refused(t, inner, text+"thread { call f7(); }")
		refused(t, inner, text+"^thread { call f0(); } thread { call f0(); }")
		refused(t, inner, text+"thread { } ^thread { loop 0 { call f0(); } }")
	}
	// As many statements as there is room for, none of which is an instruction, put in 256 places.
	text := "fun f() { " + rows(600, "atomic{}") + " } fun g() { " + rows(15, "call f();") + " } "
	refused(t, "without instructions", text+"thread { atomic { "+rows(16, "call g();")+" } }")
	refused(t, "without instructions", text+"^thread { atomic { "+rows(16, "call g();")+" call f(); } }")
}

// P10.1: beside ErrSize there is no code, whatever was made up to there.
func TestNoCodeBesideAFault(t *testing.T) {
	p := parsed(t, "record R { v: int; } global n: int; thread { atomic { let x = new R; } } thread { "+rows(256, "print 1;")+" } thread { }")
	c, fault := lower.Lower(p)
	if fault.Err != api.ErrSize || c.Records != nil || c.Globals != nil || c.Threads != nil || c.Sites != nil || c.Sections != nil {
		t.Error(fault, listing(c))
	}
}
