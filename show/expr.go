package show

import (
	"strconv"
	"strings"

	"padlock/api"
)

// op is the sign of a Binary, and how much it binds.
type op struct {
	sign  string
	binds int
}

// ops are in the order of layer 1's.
var ops = [...]op{{"+", 1}, {"-", 1}, {"*", 2}, {"/", 2}, {"%", 2}, {"==", 0}, {"!=", 0}, {"<", 0}, {"<=", 0}}

// prefixBinds is how much the kid of a prefix must bind: more than any op.
const prefixBinds = 3

// realDigits is how many digits a real has.
const realDigits = 16

// expr puts an expression.
func (w *writer) expr(e *api.Expr) {
	switch e.Op {
	case api.Lit:
		w.put(strconv.FormatUint(e.N, 10))
	case api.LitReal:
		w.real(e.N)
	case api.Nobody:
		w.put("nil ", Type(e.Type))
	case api.Input:
		w.put("input ", strconv.FormatUint(e.N, 10))
	case api.Var:
		w.put(e.Name)
	case api.Neg:
		w.put("-")
		w.kid(e, 0, prefixBinds)
	case api.ToReal:
		w.put("real ")
		w.kid(e, 0, prefixBinds)
	case api.Trunc:
		w.put("trunc ")
		w.kid(e, 0, prefixBinds)
	case api.Binary:
		w.binary(e)
	}
}

func (w *writer) real(bits uint64) {
	digits := strconv.FormatUint(bits, 16)
	w.put("#", strings.Repeat("0", realDigits-len(digits)), digits)
}

// binary puts both kids, with the sign between. Ops are read from the left, so that the second kid must bind more than the op; of comparisons there is but one, so that the first kid must bind more than that, too.
func (w *writer) binary(e *api.Expr) {
	o := opOf(e.Bin)
	w.kid(e, 0, max(o.binds, 1))
	w.put(" ", o.sign, " ")
	w.kid(e, 1, o.binds+1)
}

// opOf answers an empty one for an op that there isn't.
func opOf(bin int) op {
	if bin < 0 || bin >= len(ops) {
		return op{}
	}
	return ops[bin]
}

// kid puts the kid i of e, if e has it: in brackets, if it binds less than it must.
func (w *writer) kid(e *api.Expr, i, must int) {
	if i >= len(e.Kids) {
		return
	}
	k := &e.Kids[i]
	if k.Op != api.Binary || opOf(k.Bin).binds >= must {
		w.expr(k)
		return
	}
	w.put("(")
	w.expr(k)
	w.put(")")
}
