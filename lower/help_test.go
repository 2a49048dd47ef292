package lower_test

import (
	"fmt"
	"strings"
	"testing"

	"padlock/api"
	"padlock/check"
	"padlock/code"
	"padlock/lower"
	"padlock/parse"
)

// parsed: the program of a text with which nothing is wrong.
func parsed(t *testing.T, text string) api.Program {
	t.Helper()
	p, fault := parse.Parse(text)
	if fault == (api.Fault{}) {
		fault = check.Program(p)
	}
	if fault != (api.Fault{}) {
		t.Fatalf("%.800s: %v", text, fault)
	}
	return p
}

// lowered: the code of a text that isn't too great; it can be (P10.2).
func lowered(t *testing.T, text string) api.Code {
	t.Helper()
	c, fault := lower.Lower(parsed(t, text))
	if fault != (api.Fault{}) {
		t.Fatalf("%.800s: %v", text, fault)
	}
	if !code.Good(c) {
		t.Fatalf("%.800s: this can't be:\n%s", text, listing(c))
	}
	return c
}

// refused: that a text is too great at its mark ^, if it has one, and else isn't.
func refused(t *testing.T, what, text string) {
	t.Helper()
	ahead, behind, found := strings.Cut(text, "^")
	if !found {
		lowered(t, text)
		return
	}
	want := api.Fault{Err: api.ErrSize, Line: strings.Count(ahead, "\n") + 1, Col: len(ahead) - strings.LastIndex(ahead, "\n")}
	if c, fault := lower.Lower(parsed(t, ahead+behind)); fault != want || listing(c) != listing(api.Code{}) {
		t.Errorf("%s: %v, not %v", what, fault, want)
	}
}

// opNames: instructions as a listing names them.
var opNames = []string{"", "calc", "loadg", "loadf", "loade", "storeg", "storef", "storee", "makerec", "makeints", "sizeof", "putint", "putreal", "jump", "zero", "begin", "leave", "halt"}

// itemNames: items as a listing names them, but Push, which is its number alone.
var itemNames = []string{"", "", "s", "in", "neg", "negreal", "widen", "narrow", "int", "real", "ref"}

// binNames: ops as a listing names them.
var binNames = []string{"+", "-", "*", "/", "%", "==", "!=", "<", "<="}

// itemText: an item with all that it has: s3, int+; what it has beside that is told, too.
func itemText(x api.Item) string {
	text := itemNames[x.Op]
	switch {
	case x.Op >= api.BinInt:
		text += binNames[x.Bin]
		x.Bin = 0
	case x.Op == api.Push && x.N > 1<<32:
		text, x.N = fmt.Sprintf("#%x", x.N), 0
	case x.Op <= api.In:
		text, x.N = text+fmt.Sprint(x.N), 0
	}
	if x.N != 0 || x.Bin != 0 {
		text += fmt.Sprintf("{%d,%d}", x.Bin, x.N)
	}
	return text
}

func rowText(list []api.Item) string {
	var out []string
	for _, x := range list {
		out = append(out, itemText(x))
	}
	return "[" + strings.Join(out, " ") + "]"
}

// instrText: an instruction, with each of its fields that isn't 0 or empty.
func instrText(x api.Instr) string {
	text := opNames[x.Op]
	for _, f := range []struct {
		name string
		n    int
	}{{" d", x.Dst}, {" s", x.Src}, {" r", x.Rec}, {" n", x.N}, {" >", x.To}} {
		if f.n != 0 {
			text += f.name + fmt.Sprint(f.n)
		}
	}
	if len(x.Index) > 0 {
		text += " at" + rowText(x.Index)
	}
	if len(x.Items) > 0 {
		text += " " + rowText(x.Items)
	}
	return text
}

func localText(l api.Local) string {
	text := []string{"", "int", "real", "ints", "ref"}[l.Kind]
	if l.Kind == api.Ref || l.Rec != 0 {
		text += fmt.Sprint(l.Rec)
	}
	if l.Once {
		text += "!"
	}
	return text
}

func localsText(list []api.Local) string {
	var out []string
	for _, l := range list {
		out = append(out, localText(l))
	}
	return "(" + strings.Join(out, " ") + ")"
}

// bodyText: a thread: its Most, its slots, and its instructions, line by line, each with its place.
func bodyText(b api.Body) string {
	text := fmt.Sprintf("most %d %s\n", b.Most, localsText(b.Slots))
	for at, x := range b.Code {
		text += fmt.Sprintf("%d %s\n", at, instrText(x))
	}
	return text
}

// listing: all of a code.
func listing(c api.Code) string {
	var text string
	for _, r := range c.Records {
		text += "record " + localsText(r) + "\n"
	}
	if len(c.Globals) > 0 {
		text += "globals " + localsText(c.Globals) + "\n"
	}
	for _, s := range c.Sites {
		text += fmt.Sprintf("site %d@%d %d\n", s.Thread, s.At, s.Rec)
	}
	for _, s := range c.Sections {
		text += fmt.Sprintf("section %d@%d-%d\n", s.Thread, s.From, s.To)
	}
	for _, b := range c.Threads {
		text += "thread " + bodyText(b)
	}
	return text
}

// tidied: lines without the blanks and tabs ahead of them, and without empty ones.
func tidied(text string) string {
	var out string
	for line := range strings.Lines(text) {
		if line = strings.TrimSpace(line); line != "" {
			out += line + "\n"
		}
	}
	return out
}

// same: that the listing of a text's code is that.
func same(t *testing.T, text, want string) {
	t.Helper()
	if got := listing(lowered(t, text)); got != tidied(want) {
		t.Errorf("%s:\n%s\nnot:\n%s", text, got, tidied(want))
	}
}

// asThread: that the statements of the one thread of a text, behind a head, are that as a listing of the thread.
func asThread(t *testing.T, head, stmts, want string) {
	t.Helper()
	c := lowered(t, head+"thread { "+stmts+" }")
	if got := bodyText(c.Threads[0]); got != tidied(want) {
		t.Errorf("%s:\n%s\nnot:\n%s", stmts, got, tidied(want))
	}
}

// most: that the Most of a thread of these statements is that.
func most(t *testing.T, head, stmts string, want int) {
	t.Helper()
	if c := lowered(t, head+"thread { "+stmts+" }"); c.Threads[0].Most != want {
		t.Errorf("%s: %d, not %d", stmts, c.Threads[0].Most, want)
	}
}

// rows: so many of a part, with its number in the place of @.
func rows(n int, part string) string {
	var out strings.Builder
	for i := range n {
		out.WriteString(strings.ReplaceAll(part, "@", fmt.Sprint(i)))
	}
	return out.String()
}
