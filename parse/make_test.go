package parse_test

import (
	"math/rand"
	"strconv"
	"strings"

	"padlock/api"
	"padlock/lex"
	"padlock/num"
)

// maker writes a text by chance, and the program that it tells, with all places, as it goes.
type maker struct {
	*rand.Rand
	text      strings.Builder
	last      string
	line, col int
	deep      int
	most      int      // how deep it goes
	places    [][2]int // of all tokens
}

func newMaker(r *rand.Rand, most int) *maker {
	return &maker{Rand: r, line: 1, col: 1, most: most}
}

func (m *maker) letters(s string) {
	m.text.WriteString(s)
	for _, b := range []byte(s) {
		m.col++
		if b == '\n' {
			m.line, m.col = m.line+1, 1
		}
	}
}

// gap: what lies between the last token and the next one: nothing, now and then, where they stay two.
func (m *maker) gap(next string) {
	tokens, _ := lex.Lex(m.last + next)
	if m.Intn(3) == 0 && len(tokens) == 3 && tokens[0].Text == m.last && tokens[1].Text == next {
		return
	}
	m.letters([]string{" ", " ", " ", "\n", "\t", "  ", " \r\n\t", " // { ( - é\n "}[m.Intn(8)])
}

// put writes a token, and answers its place.
func (m *maker) put(token string) (int, int) {
	m.gap(token)
	line, col := m.line, m.col
	m.letters(token)
	m.last = token
	m.places = append(m.places, [2]int{line, col})
	return line, col
}

func (m *maker) one(of ...string) string { return of[m.Intn(len(of))] }

// name writes a name.
func (m *maker) name() (string, int, int) {
	s := m.one("x", "y", "g", "R", "_", "_9", "ints_", "Loop", "looped", "nil0", "re", "a1b2")
	line, col := m.put(s)
	return s, line, col
}

func (m *maker) nameAlone() string {
	s, _, _ := m.name()
	return s
}

// number writes a whole number.
func (m *maker) number() (uint64, int, int) {
	n := []uint64{0, 1, 7, 10, 100, 101, 1<<63 - 1, uint64(m.Int63())}[m.Intn(8)]
	line, col := m.put(strconv.FormatUint(n, 10))
	return n, line, col
}

func (m *maker) numberAlone() uint64 {
	n, _, _ := m.number()
	return n
}

// rows: up to so many of such; few ones more often.
func rows[T any](m *maker, most int, one func() T) []T {
	var out []T
	for range m.Intn(m.Intn(most+1) + 1) {
		out = append(out, one())
	}
	return out
}

// commas: the like, with commas between.
func commas[T any](m *maker, one func() T) []T {
	first := true
	return rows(m, 4, func() T {
		if !first {
			m.put(",")
		}
		first = false
		return one()
	})
}

// meaning writes a type of what may mean nobody.
func (m *maker) meaning() api.Type {
	if m.Intn(2) == 0 {
		m.put("ints")
		return api.Type{Kind: api.Ints}
	}
	return api.Type{Kind: api.Ref, Rec: m.nameAlone()}
}

func (m *maker) types() api.Type {
	switch m.Intn(4) {
	case 0:
		m.put("int")
		return api.Type{Kind: api.Int}
	case 1:
		m.put("real")
		return api.Type{Kind: api.Real}
	}
	return m.meaning()
}

func (m *maker) named() api.Named {
	name, line, col := m.name()
	m.put(":")
	return api.Named{Name: name, Type: m.types(), Line: line, Col: col}
}

func (m *maker) ended() api.Named {
	n := m.named()
	m.put(";")
	return n
}

func (m *maker) program() api.Program {
	var p api.Program
	for range m.Intn(5) {
		switch m.Intn(5) {
		case 0:
			m.put("record")
			name, line, col := m.name()
			m.put("{")
			p.Records = append(p.Records, api.Record{Name: name, Fields: rows(m, 5, m.ended), Line: line, Col: col})
			m.put("}")
		case 1:
			m.put("global")
			p.Globals = append(p.Globals, m.ended())
		case 2:
			m.put("fun")
			name, line, col := m.name()
			m.put("(")
			params := commas(m, m.named)
			m.put(")")
			p.Funs = append(p.Funs, api.Fun{Name: name, Params: params, Body: m.block(), Line: line, Col: col})
		default:
			line, col := m.put("thread")
			p.Threads = append(p.Threads, api.Thread{Body: m.block(), Line: line, Col: col})
		}
	}
	if m.Intn(2) == 0 {
		m.letters(" \n")
	}
	return p
}

// room: whether one deeper may be, or may be by chance.
func (m *maker) room() bool { return m.deep < m.most && m.Intn(3) > 0 }

func (m *maker) block() []api.Stmt {
	m.put("{")
	m.deep++
	out := rows(m, 4, m.stmt)
	m.deep--
	m.put("}")
	return out
}

func (m *maker) stmt() api.Stmt {
	if m.room() {
		return m.outer()
	}
	var s api.Stmt
	switch m.Intn(8) {
	case 0:
		s.Op = api.Let
		s.Line, s.Col = m.put("let")
		s.Name = m.nameAlone()
		s.Right = m.given()
	case 1:
		s.Op = api.VarStmt
		s.Line, s.Col = m.put("var")
		s.Name = m.nameAlone()
		s.Right = m.given()
	case 2:
		s.Op = api.Assign
		s.Name, s.Line, s.Col = m.name()
		s.Right = m.given()
	case 3:
		s.Op = api.Set
		s.Line, s.Col = m.put("set")
		s.Place = m.place()
		m.put("=")
		s.E = m.expr()
	case 4:
		s.Op = api.Print
		s.Line, s.Col = m.put("print")
		s.E = m.expr()
	case 5, 6:
		s.Op = api.Break
		word := m.one("break", "continue")
		if word == "continue" {
			s.Op = api.Continue
		}
		s.Line, s.Col = m.put(word)
		if m.Intn(2) == 0 {
			s.Name = m.nameAlone()
		}
	case 7:
		s.Op = api.Call
		s.Line, s.Col = m.put("call")
		s.Name = m.nameAlone()
		m.put("(")
		s.Args = commas(m, m.expr)
		m.put(")")
	}
	m.put(";")
	return s
}

// outer writes a statement that has a block.
func (m *maker) outer() api.Stmt {
	var s api.Stmt
	switch m.Intn(3) {
	case 0:
		s.Op = api.If
		s.Line, s.Col = m.put("if")
		s.E = m.expr()
		s.Body = m.block()
		if m.Intn(2) == 0 {
			m.put("else")
			s.Else = m.block()
		}
	case 1:
		s.Op = api.Atomic
		s.Line, s.Col = m.put("atomic")
		s.Body = m.block()
	case 2:
		s.Op = api.Loop
		if m.Intn(2) == 0 {
			s.Name, s.Line, s.Col = m.name()
			m.put(":")
			m.put("loop")
		} else {
			s.Line, s.Col = m.put("loop")
		}
		s.N = int(m.numberAlone())
		s.Body = m.block()
	}
	return s
}

// given writes = and a right side.
func (m *maker) given() api.Right {
	m.put("=")
	var r api.Right
	switch m.Intn(5) {
	case 0:
		r.Op = api.Load
		r.Line, r.Col = m.put("load")
		r.Place = m.place()
	case 1:
		r.Op = api.New
		r.Line, r.Col = m.put("new")
		r.Name = m.nameAlone()
	case 2:
		r.Op = api.NewInts
		r.Line, r.Col = m.put("new")
		m.put("ints")
		r.E = m.expr()
	case 3:
		r.Op = api.Size
		r.Line, r.Col = m.put("size")
		r.Name = m.nameAlone()
	case 4:
		r.Op = api.Calc
		first := len(m.places)
		r.E = m.expr()
		r.Line, r.Col = m.places[first][0], m.places[first][1]
	}
	return r
}

func (m *maker) place() api.Place {
	var p api.Place
	p.Base, p.Line, p.Col = m.name()
	p.Op = api.Global
	switch m.Intn(3) {
	case 0:
		m.put(".")
		p.Op, p.Field = api.Field, m.nameAlone()
	case 1:
		m.put("[")
		p.Op, p.Index = api.Elem, m.expr()
		m.put("]")
	}
	return p
}

// ops: each op's sign.
var ops = map[string]num.Op{"+": num.Add, "-": num.Sub, "*": num.Mul, "/": num.Div, "%": num.Rem, "==": num.Eq, "!=": num.Ne, "<": num.Lt, "<=": num.Le}

func (m *maker) binary(first api.Expr, sign string, second func() api.Expr) api.Expr {
	line, col := m.put(sign)
	return api.Expr{Op: api.Binary, Bin: int(ops[sign]), Kids: []api.Expr{first, second()}, Line: line, Col: col}
}

func (m *maker) expr() api.Expr {
	e := m.sum()
	if m.Intn(4) == 0 {
		e = m.binary(e, m.one("==", "!=", "<", "<="), m.sum)
	}
	return e
}

func (m *maker) sum() api.Expr {
	e := m.product()
	for m.Intn(4) == 0 {
		e = m.binary(e, m.one("+", "-"), m.product)
	}
	return e
}

func (m *maker) product() api.Expr {
	e := m.prefix()
	for m.Intn(4) == 0 {
		e = m.binary(e, m.one("*", "/", "%"), m.prefix)
	}
	return e
}

func (m *maker) prefix() api.Expr {
	if m.Intn(2) == 0 || !m.room() {
		return m.atom()
	}
	m.deep++
	defer func() { m.deep-- }()
	if m.Intn(2) == 0 {
		m.put("(")
		e := m.expr()
		m.put(")")
		return e
	}
	word := m.one("-", "real", "trunc")
	e := api.Expr{Op: map[string]int{"-": api.Neg, "real": api.ToReal, "trunc": api.Trunc}[word]}
	e.Line, e.Col = m.put(word)
	e.Kids = []api.Expr{m.prefix()}
	return e
}

func (m *maker) atom() api.Expr {
	var e api.Expr
	switch m.Intn(5) {
	case 0:
		e.Op = api.Lit
		e.N, e.Line, e.Col = m.number()
	case 1:
		e.Op = api.LitReal
		e.N = m.Uint64()
		e.Line, e.Col = m.put("#" + hex(e.N))
	case 2:
		e.Op = api.Var
		e.Name, e.Line, e.Col = m.name()
	case 3:
		e.Op = api.Input
		e.Line, e.Col = m.put("input")
		e.N = m.numberAlone()
	case 4:
		e.Op = api.Nobody
		e.Line, e.Col = m.put("nil")
		e.Type = m.meaning()
	}
	return e
}

func hex(n uint64) string {
	s := strconv.FormatUint(n, 16)
	return strings.Repeat("0", 16-len(s)) + s
}
