package check_test

import (
	"strings"
	"testing"

	"padlock/api"
	"padlock/check"
	"padlock/parse"
)

// parsed: the program of a text that can be.
func parsed(t *testing.T, text string) api.Program {
	t.Helper()
	p, fault := parse.Parse(text)
	if fault != (api.Fault{}) {
		t.Fatalf("%.500q: %v", text, fault)
	}
	return p
}

// marked: a text without its mark ^, and the fault that stands there; a text without one has none.
func marked(t *testing.T, text string, err api.Errno) (string, api.Fault) {
	t.Helper()
	ahead, behind, found := strings.Cut(text, "^")
	if found != (err != api.OK) || strings.Contains(behind, "^") {
		t.Fatalf("%.500q: a mark just if something is wrong", text)
	}
	if !found {
		return text, api.Fault{}
	}
	line := strings.Count(ahead, "\n")
	return ahead + behind, api.Fault{Err: err, Line: line + 1, Col: len(ahead) - strings.LastIndex(ahead, "\n")}
}

// faults: what is wrong with a text, at its mark; OK: nothing is.
type faults struct {
	err  api.Errno
	text string
}

// each: that with each text, with the head ahead of it, just that is wrong.
func each(t *testing.T, head string, all []faults) {
	t.Helper()
	for _, f := range all {
		text, want := marked(t, head+f.text, f.err)
		if got := check.Program(parsed(t, text)); got != want {
			t.Errorf("%.500q: %v, not %v", f.text, got, want)
		}
	}
}

// within: the like, of statements in a section of a thread.
func within(t *testing.T, head string, all []faults) {
	t.Helper()
	for _, f := range all {
		each(t, head+"thread { atomic { ", []faults{{f.err, f.text + " } }"}})
	}
}

// head: records, globals and functions of all types.
const head = `record R { v: int; w: real; all: ints; next: R; other: S; }
record S { }
global n: int; global q: real; global a: ints; global g: R; global h: S;
fun none() { } fun two(i: int, r: R) { } fun many(a: int, b: real, c: ints, d: R, e: S) { }
`

// seen: statements behind which there is a local of each type, for ever (i, x, m, r, s) and for now (vi, vx, vm, vr, vs).
const seen = `let i = 1; let x = real 1; let m = nil ints; let r = nil R; let s = nil S;
var vi = 1; var vx = real 1; var vm = nil ints; var vr = nil R; var vs = nil S;
`

// rows: so many of a part, each with a name of its own in the place of @ (a, b, c, and so on); the mark ^ stays in the last one alone.
func rows(n int, part string) string {
	var out strings.Builder
	for i := range n {
		one := strings.ReplaceAll(part, "@", string(rune('a'+i%26))+strings.Repeat("_", i/26))
		if i < n-1 {
			one = strings.ReplaceAll(one, "^", "")
		}
		out.WriteString(one)
	}
	return out.String()
}
