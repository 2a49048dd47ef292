package parse

import (
	"padlock/api"
	"padlock/lex"
)

// block reads statements in their brackets.
func (r *reader) block() []api.Stmt {
	r.deeper("{")
	var list []api.Stmt
	for !r.take("}") {
		list = append(list, r.stmt())
	}
	r.shallower()
	return list
}

// stmt reads a statement.
func (r *reader) stmt() api.Stmt {
	first := r.token()
	s := api.Stmt{Line: first.Line, Col: first.Col}
	switch {
	case r.take("let"):
		r.given(&s, api.Let, r.name().Text)
	case r.take("var"):
		r.given(&s, api.VarStmt, r.name().Text)
	case first.Kind == lex.Name:
		r.behindName(&s, r.name().Text)
	case r.take("set"):
		r.set(&s)
	case r.take("print"):
		s.Op, s.E = api.Print, r.expr()
		r.need(";")
	case r.take("if"):
		r.choice(&s)
	case r.take("atomic"):
		s.Op, s.Body = api.Atomic, r.block()
	case r.take("loop"):
		r.loop(&s)
	case r.take("break"):
		r.leave(&s, api.Break)
	case r.take("continue"):
		r.leave(&s, api.Continue)
	case r.take("call"):
		r.call(&s)
	default:
		r.refuse()
	}
	return s
}

// given reads, of a statement that gives a name a value, what stands behind the name.
func (r *reader) given(s *api.Stmt, op int, name string) {
	r.need("=")
	s.Op, s.Name, s.Right = op, name, r.right()
	r.need(";")
}

// behindName reads, of a statement that begins with a name, what stands behind it: the name may be a loop's label.
func (r *reader) behindName(s *api.Stmt, name string) {
	if !r.take(":") {
		r.given(s, api.Assign, name)
		return
	}
	s.Name = name
	r.need("loop")
	r.loop(s)
}

// set reads what stands behind the word.
func (r *reader) set(s *api.Stmt) {
	s.Op, s.Place = api.Set, r.place()
	r.need("=")
	s.E = r.expr()
	r.need(";")
}

// choice reads what stands behind if.
func (r *reader) choice(s *api.Stmt) {
	s.Op, s.E = api.If, r.expr()
	s.Body = r.block()
	if r.take("else") {
		s.Else = r.block()
	}
}

// loop reads what stands behind the word.
func (r *reader) loop(s *api.Stmt) {
	// A token's whole number is at most 2^63 - 1, so none goes round here.
	s.Op, s.N = api.Loop, int(r.number())
	s.Body = r.block()
}

// leave reads what stands behind break or continue.
func (r *reader) leave(s *api.Stmt, op int) {
	s.Op = op
	if r.token().Kind == lex.Name {
		s.Name = r.name().Text
	}
	r.need(";")
}

// call reads what stands behind the word.
func (r *reader) call(s *api.Stmt) {
	s.Op, s.Name = api.Call, r.name().Text
	s.Args = bracketed(r, r.expr)
	r.need(";")
}

// right reads a right side.
func (r *reader) right() api.Right {
	first := r.token()
	out := api.Right{Line: first.Line, Col: first.Col}
	switch {
	case r.take("load"):
		out.Op, out.Place = api.Load, r.place()
	case r.take("size"):
		out.Op, out.Name = api.Size, r.name().Text
	case !r.take("new"):
		out.Op, out.E = api.Calc, r.expr()
	case r.take("ints"):
		out.Op, out.E = api.NewInts, r.expr()
	default:
		out.Op, out.Name = api.New, r.name().Text
	}
	return out
}

// place reads a shared place.
func (r *reader) place() api.Place {
	base := r.name()
	out := api.Place{Op: api.Global, Base: base.Text, Line: base.Line, Col: base.Col}
	switch {
	case r.take("."):
		out.Op, out.Field = api.Field, r.name().Text
	case r.take("["):
		// Square brackets make it no deeper: no place stands within an expression, so there is but one.
		out.Op, out.Index = api.Elem, r.expr()
		r.need("]")
	}
	return out
}
