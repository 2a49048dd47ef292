package show

import (
	"strconv"

	"padlock/api"
)

// stmt puts the lines of a statement.
func (w *writer) stmt(s *api.Stmt) {
	switch s.Op {
	case api.If:
		w.choice(s)
	case api.Loop:
		w.loop(s)
	case api.Atomic:
		w.line("atomic")
		block(w, s.Body, w.stmt)
		w.line("}\n")
	default:
		w.line()
		w.simple(s)
		w.put(";\n")
	}
}

func (w *writer) choice(s *api.Stmt) {
	w.line("if ")
	w.expr(&s.E)
	block(w, s.Body, w.stmt)
	if len(s.Else) > 0 {
		w.line("} else")
		block(w, s.Else, w.stmt)
	}
	w.line("}\n")
}

func (w *writer) loop(s *api.Stmt) {
	w.line()
	if s.Name != "" {
		w.put(s.Name, ": ")
	}
	w.put("loop ", strconv.Itoa(s.N))
	block(w, s.Body, w.stmt)
	w.line("}\n")
}

// simple puts a statement of one line.
func (w *writer) simple(s *api.Stmt) {
	switch s.Op {
	case api.Let:
		w.put("let ", s.Name, " = ")
		w.right(&s.Right)
	case api.VarStmt:
		w.put("var ", s.Name, " = ")
		w.right(&s.Right)
	case api.Assign:
		w.put(s.Name, " = ")
		w.right(&s.Right)
	case api.Set:
		w.put("set ")
		w.place(&s.Place)
		w.put(" = ")
		w.expr(&s.E)
	case api.Print:
		w.put("print ")
		w.expr(&s.E)
	case api.Break:
		w.leave("break", s.Name)
	case api.Continue:
		w.leave("continue", s.Name)
	case api.Call:
		w.put("call ", s.Name, "(")
		row(w, s.Args, ", ", w.expr)
		w.put(")")
	}
}

// leave puts a word, and the label behind it, if there is one.
func (w *writer) leave(word, label string) {
	w.put(word)
	if label != "" {
		w.put(" ", label)
	}
}

func (w *writer) right(r *api.Right) {
	switch r.Op {
	case api.Calc:
		w.expr(&r.E)
	case api.Load:
		w.put("load ")
		w.place(&r.Place)
	case api.New:
		w.put("new ", r.Name)
	case api.NewInts:
		w.put("new ints ")
		w.expr(&r.E)
	case api.Size:
		w.put("size ", r.Name)
	}
}

func (w *writer) place(p *api.Place) {
	w.put(p.Base)
	switch p.Op {
	case api.Field:
		w.put(".", p.Field)
	case api.Elem:
		w.put("[")
		w.expr(&p.Index)
		w.put("]")
	}
}
