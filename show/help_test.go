package show_test

import (
	"testing"

	"padlock/api"
	"padlock/num"
	"padlock/parse"
	"padlock/show"
	"padlock/tree"
)

// signs: those of the ops, in their order.
var signs = []string{num.Add: "+", num.Sub: "-", num.Mul: "*", num.Div: "/", num.Rem: "%", num.Eq: "==", num.Ne: "!=", num.Lt: "<", num.Le: "<="}

func lit(n uint64) api.Expr            { return api.Expr{Op: api.Lit, N: n} }
func bits(n uint64) api.Expr           { return api.Expr{Op: api.LitReal, N: n} }
func input(n uint64) api.Expr          { return api.Expr{Op: api.Input, N: n} }
func nobody(t api.Type) api.Expr       { return api.Expr{Op: api.Nobody, Type: t} }
func name(s string) api.Expr           { return api.Expr{Op: api.Var, Name: s} }
func of(op int, kid api.Expr) api.Expr { return api.Expr{Op: op, Kids: []api.Expr{kid}} }

func bin(op num.Op, a, b api.Expr) api.Expr {
	return api.Expr{Op: api.Binary, Bin: int(op), Kids: []api.Expr{a, b}}
}

func ref(name string) api.Type { return api.Type{Kind: api.Ref, Rec: name} }

func ofKind(kind int) api.Type { return api.Type{Kind: kind} }

func named(name string, t api.Type) api.Named { return api.Named{Name: name, Type: t} }

func calc(e api.Expr) api.Right { return api.Right{Op: api.Calc, E: e} }

func show1(e api.Expr) api.Stmt { return api.Stmt{Op: api.Print, E: e} }

// thread: a program of one thread.
func thread(body ...api.Stmt) api.Program {
	return api.Program{Threads: []api.Thread{{Body: body}}}
}

// want: that a text is what it must be.
func want(t *testing.T, got, wanted string) {
	t.Helper()
	if got != wanted {
		t.Errorf("%.500q, not %.500q", got, wanted)
	}
}

// parsed: the program of a text that can be.
func parsed(t *testing.T, text string) api.Program {
	t.Helper()
	p, fault := parse.Parse(text)
	if fault != (api.Fault{}) {
		t.Fatalf("%q: %v", text, fault)
	}
	return p
}

// again: that a program's text is wanted, and, being one that Parse answers, that its text is parsed to it, and its text is that again.
func again(t *testing.T, p api.Program, wanted string) {
	t.Helper()
	want(t, show.Program(p), wanted)
	q := parsed(t, wanted)
	if !tree.Same(p, q) {
		t.Errorf("%q: parsed to another program: %+v", wanted, q)
	}
	want(t, show.Program(q), wanted)
}

// againExpr: the like of an expression.
func againExpr(t *testing.T, e api.Expr, wanted string) {
	t.Helper()
	want(t, show.Expr(e), wanted)
	again(t, thread(show1(e)), "thread {\n\tprint "+wanted+";\n}\n")
}
