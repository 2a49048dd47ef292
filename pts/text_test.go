package pts_test

import (
	"testing"

	"padlock/check"
	"padlock/lower"
	"padlock/parse"
)

const head = "record R { v: int; next: R; a: ints; } record S { r: R; x: real; } global g: R; global h: S; global n: int; global m: ints; "

// P11.1: of programs, as their texts tell them.
func TestTexts(t *testing.T) {
	for _, x := range []struct{ text, want string }{
		{"thread { atomic { let x = new R; set g = x; let y = load g; } }",
			"t0.0=0 t0.1=0 g0=0"},
		{"thread { atomic { let x = nil R; set g = x; let y = load g; let z = load y.next; let k = load y.v; } }",
			""},
		// One place, whoever calls: each call has slots, and sites, of its own.
		{"fun f(p: R) { atomic { let q = new R; set p.next = q; } } thread { var x = nil R; var y = nil R; atomic { x = new R; y = new R; } call f(x); call f(y); }",
			"t0.0=0 t0.1=1 t0.2=0 t0.3=2 t0.4=1 t0.5=3 f0.1=2 f1.1=3"},
		// Which of both it is, nobody knows.
		{"thread { atomic { var x = new R; if input 0 { x = new R; } else { x = load g; } set g = x; } }",
			"t0.0=0,1 g0=0,1"},
		// In no turn at all, all the same.
		{"thread { atomic { loop 0 { let x = new ints 3; set m = x; } let y = load m; } }",
			"t0.1=0 t0.2=0 g3=0"},
		// A list: each new one before all others.
		{"thread { atomic { loop 5 { let x = new R; let y = load g; set x.next = y; set g = x; } } } thread { atomic { var x = load g; loop 5 { x = load x.next; } let a = load x.a; } }",
			"t0.1=0 t0.2=0 t1.0=0 g0=0 f0.1=0"},
		// Whether two are the same is a whole number.
		{"thread { atomic { let x = new R; let y = new R; let same = x == y; set n = x != y; set x.v = same; print same; } }",
			"t0.0=0 t0.1=1"},
		{"thread { atomic { let s = new S; let r = new R; set s.r = r; set s.x = real 2; set h = s; let a = new ints 4; set a[0] = 7; set r.a = a; } } thread { atomic { let s = load h; let r = load s.r; let a = load r.a; let k = size a; let c = load a[k - 1]; set m = a; } }",
			"t0.0=0 t0.1=1 t0.2=2 t1.0=0 t1.1=1 t1.2=2 g1=0 g3=2 f0.0=1 f1.2=2"},
	} {
		p, fault := parse.Parse(head + x.text)
		if fault.Err == 0 {
			fault = check.Program(p)
		}
		c, great := lower.Lower(p)
		if fault.Err != 0 || great.Err != 0 {
			t.Fatal(x.text, fault, great)
		}
		has(t, x.text, c, x.want)
	}
}
