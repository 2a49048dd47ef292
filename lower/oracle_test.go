package lower_test

import (
	"fmt"
	"math/big"
	"slices"
	"strings"

	"padlock/api"
)

// teller tells the code of a program once more, otherwise: as the text of its listing, with marks where it is not known yet how it goes on.
type teller struct {
	p               api.Program
	thread          int
	lines, slots    []string
	sites, sections []string // of all threads so far
	marks           []int    // the place of each mark
	items           int      // of the longest expression
}

// names: what is seen, the newest one first.
type names struct {
	name  string
	slot  int
	kind  api.Type
	older *names
}

func (n *names) of(name string) *names {
	for n.name != name {
		n = n.older
	}
	return n
}

// around: the loops around, the innermost one first: its label, and its marks.
type around struct {
	label     string
	begin, to int
	outer     *around
}

// tell: the listing of a program's code; or why it is too great, and the place of which thread.
func tell(p api.Program) (string, string, api.Fault) {
	t := &teller{p: p}
	var ahead, threads string
	for _, r := range p.Records {
		ahead += "record " + t.declared(r.Fields) + "\n"
	}
	if len(p.Globals) > 0 {
		ahead += "globals " + t.declared(p.Globals) + "\n"
	}
	for i, thread := range p.Threads {
		t.thread, t.lines, t.slots, t.marks = i, nil, nil, nil
		fault := api.Fault{Err: api.ErrSize, Line: thread.Line, Col: thread.Col}
		if t.calls(thread.Body).Cmp(big.NewInt(256)) > 0 {
			return "", "calls", fault
		}
		t.block(thread.Body, nil, nil, false)
		t.line("halt")
		steps := t.steps(thread.Body, false)
		if why := t.great(steps); why != "" {
			return "", why, fault
		}
		threads += fmt.Sprintf("thread most %v (%s)\n%s", steps, strings.Join(t.slots, " "), t.resolved())
	}
	return ahead + strings.Join(t.sites, "") + strings.Join(t.sections, "") + threads, "", api.Fault{}
}

// great: which limit of the chapter the thread is above.
func (t *teller) great(steps *big.Int) string {
	switch {
	case len(t.lines) > 256:
		return "instructions"
	case len(t.slots) > 64:
		return "slots"
	case t.items > 64:
		return "items"
	case steps.Cmp(big.NewInt(4096)) > 0:
		return "steps"
	case len(t.sites) > 32:
		return "sites"
	case len(t.sections) > 32:
		return "sections"
	}
	return ""
}

// calls: how many Calls are put in their places.
func (t *teller) calls(list []api.Stmt) *big.Int {
	n := new(big.Int)
	for _, s := range list {
		n.Add(n, t.calls(s.Body)).Add(n, t.calls(s.Else))
		if s.Op == api.Call {
			n.Add(n, big.NewInt(1)).Add(n, t.calls(t.fun(s.Name).Body))
		}
	}
	return n
}

// steps: the chapter's Most, as a number without an end.
func (t *teller) steps(list []api.Stmt, inside bool) *big.Int {
	sum := new(big.Int)
	for _, s := range list {
		body := t.steps(s.Body, inside || s.Op == api.Atomic)
		n := big.NewInt(1)
		switch {
		case s.Op == api.If:
			other := t.steps(s.Else, inside)
			if len(s.Else) > 0 {
				body.Add(body, n)
			}
			if body.Cmp(other) < 0 {
				body = other
			}
			n.Add(n, body)
		case s.Op == api.Loop:
			body.Add(body, big.NewInt(3)).Mul(body, big.NewInt(int64(s.N)))
			n.Add(big.NewInt(2), body)
		case s.Op == api.Atomic && inside:
			n = body
		case s.Op == api.Atomic:
			n.Add(big.NewInt(2), body)
		case s.Op == api.Call:
			n.Add(big.NewInt(int64(len(s.Args))), t.steps(t.fun(s.Name).Body, inside))
		}
		sum.Add(sum, n)
	}
	return sum
}

// resolved: the lines, each with its place, and with places for marks.
func (t *teller) resolved() string {
	var out strings.Builder
	for at, line := range t.lines {
		for k := len(t.marks) - 1; k >= 0; k-- {
			line = strings.Replace(line, fmt.Sprintf("<%d>", k), fmt.Sprint(t.marks[k]), 1)
		}
		fmt.Fprintf(&out, "%d %s\n", at, line)
	}
	return out.String()
}

func (t *teller) line(format string, parts ...any) {
	t.lines = append(t.lines, fmt.Sprintf(format, parts...))
}

// mark: a new one, whose place isn't known yet.
func (t *teller) mark() int {
	t.marks = append(t.marks, -1)
	return len(t.marks) - 1
}

// n: a field that is told unless it is 0.
func n(letter string, number int) string {
	if number == 0 {
		return ""
	}
	return fmt.Sprint(" ", letter, number)
}

func (t *teller) fun(name string) api.Fun {
	return t.p.Funs[slices.IndexFunc(t.p.Funs, func(f api.Fun) bool { return f.Name == name })]
}

func (t *teller) record(name string) int {
	return slices.IndexFunc(t.p.Records, func(r api.Record) bool { return r.Name == name })
}

func fieldOf(list []api.Named, name string) int {
	return slices.IndexFunc(list, func(f api.Named) bool { return f.Name == name })
}

func (t *teller) local(kind api.Type) string {
	switch kind.Kind {
	case api.Int:
		return "int"
	case api.Real:
		return "real"
	case api.Ints:
		return "ints"
	}
	return fmt.Sprint("ref", t.record(kind.Rec))
}

func (t *teller) declared(list []api.Named) string {
	var out []string
	for _, f := range list {
		out = append(out, t.local(f.Type))
	}
	return "(" + strings.Join(out, " ") + ")"
}

// slot: a new one, and its number.
func (t *teller) slot(kind api.Type, once string) int {
	t.slots = append(t.slots, t.local(kind)+once)
	return len(t.slots) - 1
}

// block tells statements; what they name isn't seen behind them.
func (t *teller) block(list []api.Stmt, seen *names, loops *around, inside bool) {
	for _, s := range list {
		seen = t.stmt(s, seen, loops, inside)
	}
}

// stmt tells a statement, and answers what is seen behind it.
func (t *teller) stmt(s api.Stmt, seen *names, loops *around, inside bool) *names {
	switch s.Op {
	case api.Let, api.VarStmt:
		kind := t.kindOfRight(s.Right, seen)
		slot := t.slot(kind, []string{"!", ""}[s.Op-api.Let])
		t.right(s.Right, seen, slot)
		return &names{s.Name, slot, kind, seen}
	case api.Assign:
		t.right(s.Right, seen, seen.of(s.Name).slot)
	case api.Set:
		t.line("%s %s", t.place("store", s.Place, seen, 0), t.row(s.E, seen))
	case api.Print:
		t.line("%s %s", map[int]string{api.Int: "putint", api.Real: "putreal"}[kindOf(s.E, seen).Kind], t.row(s.E, seen))
	case api.If:
		t.choice(s, seen, loops, inside)
	case api.Loop:
		t.loop(s, seen, loops, inside)
	case api.Break, api.Continue:
		for s.Name != "" && loops.label != s.Name {
			loops = loops.outer
		}
		t.line("jump ><%d>", map[int]int{api.Break: loops.to, api.Continue: loops.begin}[s.Op])
	case api.Atomic:
		t.atomic(s, seen, inside)
	case api.Call:
		t.call(s, seen, inside)
	}
	return seen
}

func (t *teller) choice(s api.Stmt, seen *names, loops *around, inside bool) {
	a, b := t.mark(), t.mark()
	t.line("zero ><%d> %s", a, t.row(s.E, seen))
	t.block(s.Body, seen, loops, inside)
	if len(s.Else) > 0 {
		t.line("jump ><%d>", b)
	}
	t.marks[a] = len(t.lines)
	t.block(s.Else, seen, loops, inside)
	t.marks[b] = len(t.lines)
}

func (t *teller) loop(s api.Stmt, seen *names, loops *around, inside bool) {
	c := t.slot(api.Type{Kind: api.Int}, "")
	a, b := t.mark(), t.mark()
	t.line("calc%s [%d]", n("d", c), s.N)
	t.marks[a] = len(t.lines)
	t.line("zero ><%d> [s%d]", b, c)
	t.line("calc%s [s%d 1 int-]", n("d", c), c)
	t.block(s.Body, seen, &around{s.Name, a, b, loops}, inside)
	t.line("jump ><%d>", a)
	t.marks[b] = len(t.lines)
}

func (t *teller) atomic(s api.Stmt, seen *names, inside bool) {
	k, from := len(t.sections), len(t.lines)
	if !inside {
		t.line("begin%s", n("n", k))
		t.sections = append(t.sections, "")
	}
	t.block(s.Body, seen, nil, true)
	if !inside {
		t.sections[k] = fmt.Sprintf("section %d@%d-%d\n", t.thread, from, len(t.lines))
		t.line("leave%s", n("n", k))
	}
}

func (t *teller) call(s api.Stmt, seen *names, inside bool) {
	f := t.fun(s.Name)
	var inner *names
	for i, p := range f.Params {
		inner = &names{p.Name, t.slot(p.Type, "!"), p.Type, inner}
		t.line("calc%s %s", n("d", inner.slot), t.row(s.Args[i], seen))
	}
	t.block(f.Body, inner, nil, inside)
}

// site: the number of a new one.
func (t *teller) site(rec int) int {
	t.sites = append(t.sites, fmt.Sprintf("site %d@%d %d\n", t.thread, len(t.lines), rec))
	return len(t.sites) - 1
}

func (t *teller) right(r api.Right, seen *names, dst int) {
	d := n("d", dst)
	switch r.Op {
	case api.Calc:
		t.line("calc%s %s", d, t.row(r.E, seen))
	case api.Load:
		t.line("%s", t.place("load", r.Place, seen, dst))
	case api.New:
		rec := t.record(r.Name)
		t.line("makerec%s%s%s", d, n("r", rec), n("n", t.site(rec)))
	case api.NewInts:
		t.line("makeints%s%s %s", d, n("n", t.site(-1)), t.row(r.E, seen))
	case api.Size:
		t.line("sizeof%s%s", d, n("s", seen.of(r.Name).slot))
	}
}

// place: a load or a store, without its items.
func (t *teller) place(word string, p api.Place, seen *names, dst int) string {
	d := n("d", dst)
	if p.Op == api.Global {
		return word + "g" + d + n("n", fieldOf(t.p.Globals, p.Base))
	}
	base := seen.of(p.Base)
	if p.Op == api.Elem {
		return word + "e" + d + n("s", base.slot) + " at" + t.row(p.Index, seen)
	}
	rec := t.record(base.kind.Rec)
	return word + "f" + d + n("s", base.slot) + n("r", rec) + n("n", fieldOf(t.p.Records[rec].Fields, p.Field))
}

func (t *teller) kindOfRight(r api.Right, seen *names) api.Type {
	switch {
	case r.Op == api.Calc:
		return kindOf(r.E, seen)
	case r.Op == api.New:
		return api.Type{Kind: api.Ref, Rec: r.Name}
	case r.Op == api.NewInts:
		return api.Type{Kind: api.Ints}
	case r.Op == api.Load && r.Place.Op == api.Global:
		return t.p.Globals[fieldOf(t.p.Globals, r.Place.Base)].Type
	case r.Op == api.Load && r.Place.Op == api.Field:
		fields := t.p.Records[t.record(seen.of(r.Place.Base).kind.Rec)].Fields
		return fields[fieldOf(fields, r.Place.Field)].Type
	}
	return api.Type{Kind: api.Int}
}

// row: an expression's items.
func (t *teller) row(e api.Expr, seen *names) string {
	text := t.told(e, seen)
	t.items = max(t.items, len(strings.Fields(text)))
	return "[" + text + "]"
}

func number(bits uint64) string {
	if bits > 1<<32 {
		return fmt.Sprintf("#%x", bits)
	}
	return fmt.Sprint(bits)
}

func (t *teller) told(e api.Expr, seen *names) string {
	var kids string
	var kind api.Type
	for _, k := range e.Kids {
		kids += t.told(k, seen) + " "
		kind = kindOf(e.Kids[0], seen)
	}
	switch e.Op {
	case api.Lit:
		return number(e.N)
	case api.LitReal:
		// No number: all ones where the power stands, and anything behind.
		if e.N<<1 > 0xffe0000000000000 {
			return "#7ff8000000000000"
		}
		return number(e.N)
	case api.Nobody:
		return "0"
	case api.Input:
		return fmt.Sprint("in", e.N)
	case api.Var:
		return fmt.Sprint("s", seen.of(e.Name).slot)
	case api.Neg:
		return kids + map[int]string{api.Int: "neg", api.Real: "negreal"}[kind.Kind]
	case api.ToReal:
		return kids + "widen"
	case api.Trunc:
		return kids + "narrow"
	}
	return kids + map[int]string{api.Int: "int", api.Real: "real", api.Ints: "ref", api.Ref: "ref"}[kind.Kind] + binNames[e.Bin]
}

func kindOf(e api.Expr, seen *names) api.Type {
	switch {
	case e.Op == api.Nobody:
		return e.Type
	case e.Op == api.Var:
		return seen.of(e.Name).kind
	case e.Op == api.LitReal || e.Op == api.ToReal:
		return api.Type{Kind: api.Real}
	case e.Op == api.Neg || e.Op == api.Binary && slices.Contains([]string{"+", "-", "*", "/", "%"}, binNames[e.Bin]):
		return kindOf(e.Kids[0], seen)
	}
	return api.Type{Kind: api.Int}
}
