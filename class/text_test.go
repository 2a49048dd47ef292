package class_test

import (
	"slices"
	"testing"

	"padlock/check"
	"padlock/class"
	"padlock/lower"
	"padlock/parse"
	"padlock/pts"
)

const head = "record R { v: int; next: R; a: ints; } record S { r: R; x: real; } global g: R; global h: R; global s: S; global m: ints; "

// P12.1, P12.2: the sites of programs, as their texts tell them.
func TestTexts(t *testing.T) {
	for _, x := range []struct {
		text string
		want []int
	}{
		{"thread { print 1; }", nil},
		{"thread { atomic { let x = new R; set g = x; let y = load g; } }", row(1)},
		{"thread { atomic { let x = new R; let y = new R; set g = x; set h = y; } }", row(1, 2)},
		{"thread { atomic { let x = new R; let y = new R; set g = x; set g = y; } }", row(1, 1)},
		{"thread { atomic { var x = new R; let y = new ints 2; if input 0 { x = new R; } set x.a = y; } }", row(1, 2, 1)},
		// Two threads, and a global that both fill.
		{"thread { atomic { let x = new R; let y = new R; set g = x; set h = y; } } thread { atomic { let x = new R; let y = new R; set h = x; } }", row(1, 2, 2, 3)},
		// What is in a field of either.
		{"thread { atomic { let x = new S; let y = new R; let z = new R; set x.r = y; set x.r = z; } }", row(1, 2, 2)},
		{"thread { atomic { let x = new S; let k = new S; let y = new R; let z = new R; set x.r = y; set k.r = z; } }", row(1, 2, 3, 4)},
		// No slot, global or field has the first and the last one, but there are ones that have the second.
		{"thread { atomic { let x = new R; let y = new R; let z = new R; set g = x; set g = y; set h = y; set h = z; let a = new ints 1; set m = a; } }", row(1, 1, 1, 2)},
		{"thread { atomic { let x = new ints 3; let k = new R; set k.a = x; let z = new ints 4; set m = z; let y = load k.a; set m = y; } }", row(1, 2, 1)},
	} {
		p, fault := parse.Parse(head + x.text)
		if fault.Err == 0 {
			fault = check.Program(p)
		}
		c, great := lower.Lower(p)
		if fault.Err != 0 || great.Err != 0 {
			t.Fatal(x.text, fault, great)
		}
		sets := pts.Solve(c)
		got := class.Split(len(c.Sites), sets)
		if !slices.Equal(got, x.want) {
			t.Errorf("%s: %v, not %v", x.text, got, x.want)
		}
		for _, s := range flat(sets) {
			for site := range pts.Each(s) {
				if class.Of(s, got...) != got[site] {
					t.Errorf("%s: the site %d isn't of the class of %b", x.text, site, s)
				}
			}
		}
	}
}
