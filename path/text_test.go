package path_test

import (
	"testing"

	"padlock/api"
	"padlock/check"
	"padlock/lower"
	"padlock/parse"
)

const head = "record R { v: int; next: R; a: ints; } record S { r: R; next: S; } global g: R; global h: S; global n: int; global m: ints; "

// texted: a text's code.
func texted(t *testing.T, text string) api.Code {
	t.Helper()
	p, fault := parse.Parse(head + text)
	if fault.Err == 0 {
		fault = check.Program(p)
	}
	c, great := lower.Lower(p)
	if fault.Err != 0 || great.Err != 0 {
		t.Fatal(text, fault, great)
	}
	return c
}

// P13.1: of programs, as their texts tell them, in each of their sections.
func TestTexts(t *testing.T) {
	m := made(17)
	for _, x := range []struct {
		text string
		want []string
	}{
		{"thread { atomic { let x = load g; let y = load x.next; } }", row("g0 g0.1")},
		{"thread { atomic { let x = load g; let y = load x.next; set g = y; } }", row("? ?")},
		{"thread { atomic { print 1; } }", row("")},
		{"thread { let i = input 0; let k = i; atomic { let j = k; print j; } }", row("s0 s1 s1")},
		// A var that is given another value in the section, and one that isn't.
		{"thread { var x = nil R; var y = nil R; atomic { x = load g; let z = load y.next; } atomic { let z = load x.next; } }",
			row("? s1 s1.1 s3", "s0 s1 s2 s0.1")},
		// A let in a loop has one instruction, whatever turn it is.
		{"thread { loop 3 { atomic { let x = load g; let y = load x.next; let a = load y.a; let i = 1; let c = load a[i]; set a[c] = i; } } }",
			row("s0 g0 g0.1 g0.1.2 ? ?")},
		// What is new is filled: of its fields nothing is known, nor of others of that number.
		{"thread { atomic { let x = new R; let y = load g; set x.next = y; set x.v = 1; let z = load y.next; let v = load y.v; let a = load y.a; } }",
			row("new g0 ? ? g0.2")},
		// Each call has slots of its own; what is handed over is moved.
		{"fun f(p: R, q: S) { atomic { let a = load p.next; let b = load q.r; let c = load b.next; } } thread { var x = nil R; var s = nil S; atomic { x = load g; s = load h; } call f(x, s); call f(x, nil S); }",
			row("? ? s2 s3 s4 s5 s6 s7 s8 s9 s10 s11", "s0 s1 s2 s3 s2.1 s3.0 s3.0.1 s7 s8 s9 s10 s11", "s0 s1 s2 s3 s4 s5 s6 s7 s8 s7.1 s8.0 s8.0.1")},
		// Called within, it is a part of the section: what it is handed is known, too.
		{"fun f(p: R) { atomic { let a = load p.next; } } thread { atomic { let x = load g; call f(x); let y = load x.next; call f(y); } }",
			row("g0 g0 g0.1 g0.1 g0.1 g0.1.1")},
		// Along a list of any length.
		{"thread { atomic { var x = load g; loop 5 { x = load x.next; } let a = load x.a; } }", row("? ? ?")},
		// Either way, one of them is done; both count.
		{"thread { atomic { let s = load h; if input 0 { let b = load s.next; } else { set s.next = s; } let r = load s.r; let a = load r.a; let k = size a; } }",
			row("g1 ? g1.0 g1.0.2 ?")},
		// The like-numbered field of the other record.
		{"thread { atomic { let s = load h; let r = load s.r; let q = load r.next; set s.next = s; } }", row("g1 g1.0 g1.0.1")},
		{"thread { atomic { let s = load h; let r = load s.r; let q = load r.next; set r.next = r; } }", row("g1 g1.0 ?")},
		// Another section's stores, and another thread's, play no part.
		{"thread { atomic { let x = load g; } atomic { set g = nil R; } } thread { atomic { set g = nil R; } }",
			row("g0", "s0", "")},
		{"thread { atomic { let i = load n; let a = load m; let c = load a[i]; let k = i + 0; let j = i; set a[j] = k; set n = c; } }", row("? g3 ? ? ?")},
		{"thread { atomic { let i = load n; let a = load m; let c = load a[i]; let j = i; set a[j] = c; } }", row("g2 g3 ? g2")},
	} {
		c := texted(t, x.text)
		if len(c.Sections) != len(x.want) {
			t.Errorf("%s: %d sections", x.text, len(c.Sections))
			continue
		}
		for section, want := range x.want {
			is(t, x.text, c, section, want)
			m.follow(t, c, section, of(t, c, section))
		}
	}
}
