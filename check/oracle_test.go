package check_test

import (
	"slices"
	"strings"

	"padlock/api"
	"padlock/show"
)

// asker tells in another way what is wrong: it never gives up, but notes all faults, in the order in which they are asked for, and the first one counts. Types are texts; one that can't be told is a question mark.
type asker struct {
	p     api.Program
	found []api.Fault
}

// scene is what is seen at a statement; it is handed on, so that nothing is to be taken back.
type scene struct {
	kinds map[string]string // of the locals
	fixed map[string]bool   // those that are for ever
	loops []string
	open  bool // in a thread, outside all Atomics
}

func (s scene) with(name, kind string, fixed bool) scene {
	out := scene{map[string]string{name: kind}, map[string]bool{name: fixed}, s.loops, s.open}
	for n, k := range s.kinds {
		if n != name {
			out.kinds[n], out.fixed[n] = k, s.fixed[n]
		}
	}
	return out
}

// firstFault: what Program must answer.
func firstFault(p api.Program) api.Fault {
	a := &asker{p: p}
	a.declared()
	for i, t := range p.Threads {
		a.note(i == 4, api.ErrSize, t.Line, t.Col)
	}
	closed := closure(p, everywhere)
	for _, f := range p.Funs {
		a.note(closed[f.Name][f.Name], api.ErrRecur, f.Line, f.Col)
	}
	for _, f := range p.Funs {
		s := scene{}
		for _, q := range f.Params {
			s = s.with(q.Name, show.Type(q.Type), true)
		}
		a.stmts(f.Body, s)
	}
	for _, t := range p.Threads {
		a.stmts(t.Body, scene{open: true})
	}
	return append(a.found, api.Fault{})[0]
}

func (a *asker) note(wrong bool, err api.Errno, line, col int) {
	if wrong {
		a.found = append(a.found, api.Fault{Err: err, Line: line, Col: col})
	}
}

func (a *asker) declared() {
	names := map[string]int{}
	for i, r := range a.p.Records {
		a.note(i >= 6, api.ErrSize, r.Line, r.Col)
		names[r.Name]++
		a.note(names[r.Name] > 1, api.ErrName, r.Line, r.Col)
		a.row(r.Fields, 6)
	}
	a.row(a.p.Globals, 8)
	names = map[string]int{}
	for i, f := range a.p.Funs {
		a.note(i >= 8, api.ErrSize, f.Line, f.Col)
		names[f.Name]++
		a.note(names[f.Name] > 1, api.ErrName, f.Line, f.Col)
		a.row(f.Params, 6)
	}
}

func (a *asker) row(list []api.Named, most int) {
	names := map[string]int{}
	for i, n := range list {
		a.note(i >= most, api.ErrSize, n.Line, n.Col)
		names[n.Name]++
		a.note(names[n.Name] > 1 || !a.kind(show.Type(n.Type)), api.ErrName, n.Line, n.Col)
	}
}

// kind: whether there is a type of that text. No record has a word's name.
func (a *asker) kind(text string) bool {
	for _, r := range a.p.Records {
		if r.Name == text {
			return true
		}
	}
	return text == "int" || text == "real" || text == "ints"
}

func (a *asker) stmts(list []api.Stmt, s scene) {
	for _, x := range list {
		a.stmt(x, s)
		if x.Op == api.Let || x.Op == api.VarStmt {
			quiet := &asker{p: a.p}
			s = s.with(x.Name, quiet.right(x.Right, s), x.Op == api.Let)
		}
	}
}

func (a *asker) stmt(x api.Stmt, s scene) {
	kind, there := s.kinds[x.Name]
	switch x.Op {
	case api.Let, api.VarStmt:
		a.note(there, api.ErrName, x.Line, x.Col)
		a.right(x.Right, s)
	case api.Assign:
		a.note(!there, api.ErrName, x.Line, x.Col)
		a.note(s.fixed[x.Name], api.ErrType, x.Line, x.Col)
		a.note(a.right(x.Right, s) != kind, api.ErrType, x.Right.Line, x.Right.Col)
	case api.Set:
		kind = a.place(x.Place, s)
		a.note(a.expr(x.E, s) != kind, api.ErrType, x.E.Line, x.E.Col)
	case api.Print:
		a.note(!strings.Contains(" int real ", " "+a.expr(x.E, s)+" "), api.ErrType, x.E.Line, x.E.Col)
	case api.If:
		a.int(x.E, s)
		a.stmts(x.Body, s)
		a.stmts(x.Else, s)
	case api.Loop:
		a.note(x.N > 100, api.ErrSize, x.Line, x.Col)
		a.note(x.Name != "" && slices.Contains(s.loops, x.Name), api.ErrName, x.Line, x.Col)
		s.loops = append(slices.Clone(s.loops), x.Name)
		a.stmts(x.Body, s)
	case api.Break, api.Continue:
		named := slices.Contains(s.loops, x.Name)
		a.note(len(s.loops) == 0 || x.Name != "" && !named, api.ErrLabel, x.Line, x.Col)
	case api.Atomic:
		s.loops, s.open = nil, false
		a.stmts(x.Body, s)
	case api.Call:
		a.call(x, s)
	}
	a.note(s.open && touchesNow(a.p, x), api.ErrShared, x.Line, x.Col)
}

func (a *asker) call(x api.Stmt, s scene) {
	i := slices.IndexFunc(a.p.Funs, func(f api.Fun) bool { return f.Name == x.Name })
	if i < 0 {
		a.note(true, api.ErrName, x.Line, x.Col)
		return
	}
	params := a.p.Funs[i].Params
	a.note(len(params) != len(x.Args), api.ErrType, x.Line, x.Col)
	for i, e := range x.Args {
		kind := a.expr(e, s)
		a.note(i >= len(params) || kind != show.Type(params[i].Type), api.ErrType, e.Line, e.Col)
	}
}

func (a *asker) int(e api.Expr, s scene) {
	a.note(a.expr(e, s) != "int", api.ErrType, e.Line, e.Col)
}

// shapes: which types go together, as op and types of the kids, with "?" for any one type; and what comes of them.
var shapes = []struct{ kids, kind string }{
	{"- int", "int"}, {"- real", "real"}, {"real int", "real"}, {"trunc real", "int"},
	{"+ int int", "int"}, {"+ real real", "real"}, {"- int int", "int"}, {"- real real", "real"}, {"* int int", "int"}, {"* real real", "real"}, {"/ int int", "int"}, {"/ real real", "real"}, {"% int int", "int"},
	{"< int int", "int"}, {"< real real", "int"}, {"<= int int", "int"}, {"<= real real", "int"}, {"== ? ?", "int"}, {"!= ? ?", "int"},
}

func (a *asker) expr(e api.Expr, s scene) string {
	words := []string{map[int]string{api.Neg: "-", api.ToReal: "real", api.Trunc: "trunc"}[e.Op]}
	if e.Op == api.Binary {
		words[0] = strings.Fields("+ - * / % == != < <=")[e.Bin]
	}
	for _, k := range e.Kids {
		words = append(words, a.expr(k, s))
	}
	switch e.Op {
	case api.Lit:
		return "int"
	case api.LitReal:
		return "real"
	case api.Input:
		a.note(e.N > 15, api.ErrSize, e.Line, e.Col)
		return "int"
	case api.Nobody:
		kind := show.Type(e.Type)
		a.note(!a.kind(kind), api.ErrName, e.Line, e.Col)
		return kind
	case api.Var:
		kind, ok := s.kinds[e.Name]
		a.note(!ok, api.ErrName, e.Line, e.Col)
		return kind
	}
	for _, shape := range shapes {
		last := words[len(words)-1]
		if strings.Join(words, " ") == strings.ReplaceAll(shape.kids, "?", last) {
			return shape.kind
		}
	}
	a.note(true, api.ErrType, e.Line, e.Col)
	return "?"
}

func (a *asker) place(p api.Place, s scene) string {
	kind, ok := s.kinds[p.Base]
	switch p.Op {
	case api.Global:
		for _, g := range a.p.Globals {
			if g.Name == p.Base {
				return show.Type(g.Type)
			}
		}
		ok = false
	case api.Elem:
		a.note(!ok, api.ErrName, p.Line, p.Col)
		a.note(kind != "ints", api.ErrType, p.Line, p.Col)
		a.int(p.Index, s)
		return "int"
	case api.Field:
		a.note(ok && strings.Contains(" int real ints ", " "+kind+" "), api.ErrType, p.Line, p.Col)
		for _, r := range a.p.Records {
			for _, f := range r.Fields {
				if ok && r.Name == kind && f.Name == p.Field {
					return show.Type(f.Type)
				}
			}
		}
		ok = false
	}
	a.note(!ok, api.ErrName, p.Line, p.Col)
	return "?"
}

func (a *asker) right(r api.Right, s scene) string {
	switch r.Op {
	case api.Load:
		return a.place(r.Place, s)
	case api.New:
		a.note(!a.kind(r.Name), api.ErrName, r.Line, r.Col)
		return r.Name
	case api.NewInts:
		a.int(r.E, s)
		return "ints"
	case api.Size:
		kind, ok := s.kinds[r.Name]
		a.note(!ok, api.ErrName, r.Line, r.Col)
		a.note(kind != "ints", api.ErrType, r.Line, r.Col)
		return "int"
	}
	return a.expr(r.E, s)
}

// everywhere and outsideAtomics: all statements of a row, those within others too; but for those within Atomics.
func everywhere(list []api.Stmt) []api.Stmt {
	var out []api.Stmt
	for _, s := range list {
		out = append(append(append(out, s), everywhere(s.Body)...), everywhere(s.Else)...)
	}
	return out
}

func outsideAtomics(list []api.Stmt) []api.Stmt {
	var out []api.Stmt
	for _, s := range list {
		if out = append(out, s); s.Op != api.Atomic {
			out = append(append(out, outsideAtomics(s.Body)...), outsideAtomics(s.Else)...)
		}
	}
	return out
}

// closure: which function leads to which one, by those calls, through any others.
func closure(p api.Program, calls func([]api.Stmt) []api.Stmt) map[string]map[string]bool {
	to := map[string]map[string]bool{}
	for _, f := range p.Funs {
		to[f.Name] = map[string]bool{}
	}
	for _, f := range p.Funs {
		for _, s := range calls(f.Body) {
			if s.Op == api.Call && to[s.Name] != nil {
				to[f.Name][s.Name] = true
			}
		}
	}
	for mid := range to {
		for from := range to {
			for end := range to {
				if to[from][mid] && to[mid][end] {
					to[from][end] = true
				}
			}
		}
	}
	return to
}

// itself: whether a statement is shared.
func itself(s api.Stmt) bool {
	byRight := s.Op == api.Let || s.Op == api.VarStmt || s.Op == api.Assign
	return s.Op == api.Set || byRight && slices.Contains([]int{api.Load, api.New, api.NewInts}, s.Right.Op)
}

// reaches: what Shared must answer.
func reaches(p api.Program, name string) bool {
	led := closure(p, outsideAtomics)[name]
	for _, f := range p.Funs {
		if (f.Name == name || led[f.Name]) && slices.ContainsFunc(outsideAtomics(f.Body), itself) {
			return true
		}
	}
	return false
}

func touchesNow(p api.Program, s api.Stmt) bool {
	return itself(s) || s.Op == api.Call && reaches(p, s.Name)
}

// openly: P7.2 at its word: whether a row of statements, being done outside all sections, with all functions that are called on the way, touches what is shared there; of programs in which nobody calls himself.
func openly(p api.Program, list []api.Stmt) bool {
	for _, s := range list {
		if s.Op == api.Atomic {
			continue
		}
		if itself(s) || openly(p, s.Body) || openly(p, s.Else) {
			return true
		}
		for _, f := range p.Funs {
			if s.Op == api.Call && f.Name == s.Name && openly(p, f.Body) {
				return true
			}
		}
	}
	return false
}
