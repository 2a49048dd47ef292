package show_test

import (
	"fmt"
	"math/rand"
	"slices"
	"strings"

	"padlock/api"
	"padlock/lex"
)

// teller tells a program's text in another way: each item as a row of lines, and brackets by how much a text binds. With more, there are brackets that needn't be, and an else of none, as more says.
type teller struct{ more func() bool }

var plainly = teller{func() bool { return false }}

// binds: how much the ops do, in their order; what is no Binary binds as much as can be asked for.
var binds = []int{1, 1, 2, 2, 2, 0, 0, 0, 0}

func (o teller) types(t api.Type) string {
	return []string{api.Int: "int", api.Real: "real", api.Ints: "ints", api.Ref: t.Rec}[t.Kind]
}

func (o teller) bare(e api.Expr) (string, int) {
	switch e.Op {
	case api.Lit:
		return fmt.Sprint(e.N), 3
	case api.LitReal:
		return fmt.Sprintf("#%016x", e.N), 3
	case api.Nobody:
		return "nil " + o.types(e.Type), 3
	case api.Input:
		return fmt.Sprint("input ", e.N), 3
	case api.Var:
		return e.Name, 3
	case api.Binary:
		b := binds[e.Bin]
		return fmt.Sprintf("%s %s %s", o.expr(e.Kids[0], []int{1, 1, 2}[b]), signs[e.Bin], o.expr(e.Kids[1], []int{1, 2, 3}[b])), b
	}
	return prefixes[e.Op] + o.expr(e.Kids[0], 3), 3
}

// expr: a text that binds as much as it must.
func (o teller) expr(e api.Expr, must int) string {
	text, b := o.bare(e)
	if b < must || o.more() {
		return "(" + text + ")"
	}
	return text
}

func (o teller) any(e api.Expr) string { return o.expr(e, 0) }

func (o teller) named(n api.Named) string { return n.Name + ": " + o.types(n.Type) }

// joined: the texts of a row, with something between.
func joined[T any](list []T, between string, text func(T) string) string {
	var texts []string
	for _, x := range list {
		texts = append(texts, text(x))
	}
	return strings.Join(texts, between)
}

func (o teller) place(p api.Place) string {
	return []string{api.Global: p.Base, api.Field: p.Base + "." + p.Field, api.Elem: p.Base + "[" + o.indexed(p) + "]"}[p.Op]
}

func (o teller) indexed(p api.Place) string {
	if p.Op != api.Elem {
		return ""
	}
	return o.any(p.Index)
}

func (o teller) right(r api.Right) string {
	switch r.Op {
	case api.Load:
		return "load " + o.place(r.Place)
	case api.New:
		return "new " + r.Name
	case api.NewInts:
		return "new ints " + o.any(r.E)
	case api.Size:
		return "size " + r.Name
	}
	return o.any(r.E)
}

// deeper: lines, each with one tab more.
func deeper(lines []string) []string {
	var out []string
	for _, l := range lines {
		out = append(out, "\t"+l)
	}
	return out
}

// block: the lines of a block, with the one that begins it and the one that ends it.
func (o teller) block(head string, body []api.Stmt, last ...string) []string {
	out := []string{head + " {"}
	for _, s := range body {
		out = append(out, deeper(o.stmt(s))...)
	}
	return append(out, last...)
}

func (o teller) stmt(s api.Stmt) []string {
	label := ""
	if s.Name != "" {
		label = " " + s.Name
	}
	switch s.Op {
	case api.Let:
		return []string{"let " + s.Name + " = " + o.right(s.Right) + ";"}
	case api.VarStmt:
		return []string{"var " + s.Name + " = " + o.right(s.Right) + ";"}
	case api.Assign:
		return []string{s.Name + " = " + o.right(s.Right) + ";"}
	case api.Set:
		return []string{"set " + o.place(s.Place) + " = " + o.any(s.E) + ";"}
	case api.Print:
		return []string{"print " + o.any(s.E) + ";"}
	case api.Break:
		return []string{"break" + label + ";"}
	case api.Continue:
		return []string{"continue" + label + ";"}
	case api.Call:
		return []string{"call " + s.Name + "(" + joined(s.Args, ", ", o.any) + ");"}
	case api.Atomic:
		return o.block("atomic", s.Body, "}")
	case api.Loop:
		if s.Name != "" {
			return o.block(fmt.Sprint(s.Name, ": loop ", s.N), s.Body, "}")
		}
		return o.block(fmt.Sprint("loop ", s.N), s.Body, "}")
	}
	if len(s.Else) == 0 && !o.more() {
		return o.block("if "+o.any(s.E), s.Body, "}")
	}
	return append(o.block("if "+o.any(s.E), s.Body), o.block("} else", s.Else, "}")...)
}

// items: the texts of a program's items, each kind's in a row.
func (o teller) items(p api.Program) [4][]string {
	var out [4][]string
	put := func(kind int, lines ...string) { out[kind] = append(out[kind], strings.Join(lines, "\n")+"\n") }
	for _, r := range p.Records {
		lines := []string{"record " + r.Name + " {"}
		for _, f := range r.Fields {
			lines = append(lines, "\t"+o.named(f)+";")
		}
		put(0, append(lines, "}")...)
	}
	for _, g := range p.Globals {
		put(1, "global "+o.named(g)+";")
	}
	for _, f := range p.Funs {
		put(2, o.block("fun "+f.Name+"("+joined(f.Params, ", ", o.named)+")", f.Body, "}")...)
	}
	for _, t := range p.Threads {
		put(3, o.block("thread", t.Body, "}")...)
	}
	return out
}

// textOf: a program's one text.
func textOf(p api.Program) string {
	var out strings.Builder
	for _, kind := range plainly.items(p) {
		out.WriteString(strings.Join(kind, ""))
	}
	return out.String()
}

// looseOf: a text of the program, by chance: its items in another order of kinds, with brackets more, and with anything between tokens; not ok: it is too long for that.
func looseOf(r *rand.Rand, p api.Program) (string, bool) {
	items := teller{func() bool { return r.Intn(12) == 0 }}.items(p)
	var order []int
	for kind, row := range items {
		order = append(order, slices.Repeat([]int{kind}, len(row))...)
	}
	r.Shuffle(len(order), func(i, j int) { order[i], order[j] = order[j], order[i] })
	var text strings.Builder
	for _, kind := range order {
		text.WriteString(items[kind][0])
		items[kind] = items[kind][1:]
	}
	tokens, fault := lex.Lex(text.String())
	if fault.Err != api.OK {
		return "", false
	}
	loose := laidOut(r, tokens)
	return loose, len(loose) <= api.MaxText
}

// laidOut: tokens with gaps between them by chance; none, now and then, where they stay two.
func laidOut(r *rand.Rand, tokens []lex.Token) string {
	var out strings.Builder
	last := ""
	for _, t := range tokens {
		two, _ := lex.Lex(last + t.Text)
		if r.Intn(3) == 0 || len(two) != 3 || two[0].Text != last || two[1].Text != t.Text {
			out.WriteString([]string{" ", " ", "\n", "\t", "  ", " \r\n\t", " // { ( - é\n "}[r.Intn(7)])
		}
		out.WriteString(t.Text)
		last = t.Text
	}
	return out.String()
}
