package parse

import (
	"padlock/api"
	"padlock/lex"
	"padlock/num"
)

// signs has the ops' signs, in the order of the ops.
var signs = [...]string{"+", "-", "*", "/", "%", "==", "!=", "<", "<="}

// expr reads an expression: at most one comparison.
func (r *reader) expr() api.Expr {
	e := r.sum()
	if op, ok := r.sign(num.Eq, num.Le); ok {
		e = r.binary(op, e, r.sum)
	}
	return e
}

func (r *reader) sum() api.Expr {
	return r.fromLeft(r.product, num.Add, num.Sub)
}

func (r *reader) product() api.Expr {
	return r.fromLeft(r.prefix, num.Mul, num.Rem)
}

// fromLeft reads parts with signs of ops from least to most between; each sign takes all that stands ahead as its first kid.
func (r *reader) fromLeft(part func() api.Expr, least, most num.Op) api.Expr {
	e := part()
	for {
		op, ok := r.sign(least, most)
		if !ok {
			return e
		}
		e = r.binary(op, e, part)
	}
}

// sign answers the op, from least to most, whose sign stands next; not ok: none does.
func (r *reader) sign(least, most num.Op) (num.Op, bool) {
	for op := least; op <= most; op++ {
		if r.token().Text == signs[op] {
			return op, true
		}
	}
	return 0, false
}

// binary reads an op's sign, which stands next, and the second kid behind it.
func (r *reader) binary(op num.Op, first api.Expr, second func() api.Expr) api.Expr {
	sign := r.next()
	return api.Expr{Op: api.Binary, Bin: int(op), Kids: []api.Expr{first, second()}, Line: sign.Line, Col: sign.Col}
}

// prefix reads an atom with all signs and words ahead of it.
func (r *reader) prefix() api.Expr {
	first := r.token()
	op, ok := prefixOp(first.Text)
	if !ok {
		return r.atom()
	}
	r.deeper(first.Text)
	kid := r.prefix()
	r.shallower()
	return api.Expr{Op: op, Kids: []api.Expr{kid}, Line: first.Line, Col: first.Col}
}

// prefixOp answers which kind of expression a sign or word begins as its prefix; not ok: it is none.
func prefixOp(text string) (int, bool) {
	switch text {
	case "-":
		return api.Neg, true
	case "real":
		return api.ToReal, true
	case "trunc":
		return api.Trunc, true
	}
	return 0, false
}

// atom reads what expressions are made of.
func (r *reader) atom() api.Expr {
	first := r.token()
	if first.Text == "(" {
		return r.inner()
	}
	e := api.Expr{Line: first.Line, Col: first.Col}
	switch {
	case first.Kind == lex.Int:
		e.Op, e.N = api.Lit, r.next().N
	case first.Kind == lex.Real:
		e.Op, e.N = api.LitReal, r.next().N
	case first.Kind == lex.Name:
		e.Op, e.Name = api.Var, r.next().Text
	case r.take("input"):
		e.Op, e.N = api.Input, r.number()
	case r.take("nil"):
		e.Op, e.Type = api.Nobody, r.meaning()
	default:
		r.refuse()
	}
	return e
}

// inner reads an expression in round brackets, of which nothing is left, not even their place.
func (r *reader) inner() api.Expr {
	r.deeper("(")
	e := r.expr()
	r.need(")")
	r.shallower()
	return e
}
