package lower_test

import (
	"fmt"
	"math/rand"
	"slices"
	"strings"
)

// pool: names, for whatever there is; few, so that things of all kinds meet in one name.
var pool = []string{"a", "b", "c", "d", "x", "R"}

// named: a name, and its type's text.
type named struct {
	name, kind string
	fixed      bool
}

// madeFun: a function that was made, and whether it touches what is shared outside its Atomics.
type madeFun struct {
	name   string
	params []named
	reach  bool
}

// maker writes texts by chance with which nothing is wrong; the same ones each time.
type maker struct {
	*rand.Rand
	most    int // statements of a block, but for less for each one around it
	less    int
	deepest int // blocks within one another
	like    int // the kind of statement of which there are to be many; 0: none
	turns   int // of a loop
	records map[string][]named
	kinds   []string
	globals []named
	funs    []madeFun // those that may be called: each calls those made ahead of it alone
	locals  []named
	loops   []string
	open    bool // what is shared may be touched
	inside  bool // an Atomic
	reach   bool
	deep    int
}

func (m *maker) one(of ...string) string { return of[m.Intn(len(of))] }

// chosen: one of those that are meant; not ok: there is none.
func (m *maker) chosen(list []named, meant func(named) bool) (named, bool) {
	var all []named
	for _, n := range list {
		if meant(n) {
			all = append(all, n)
		}
	}
	if len(all) == 0 {
		return named{}, false
	}
	return all[m.Intn(len(all))], true
}

func ofKind(kind string) func(named) bool {
	return func(n named) bool { return n.kind == kind }
}

// fresh: a name that isn't there yet.
func (m *maker) fresh(list []named) string {
	for i := range 1000 {
		name := m.one(pool...)
		if i > 9 {
			name = fmt.Sprint("y", i)
		}
		if !slices.ContainsFunc(list, func(n named) bool { return n.name == name }) {
			return name
		}
	}
	return ""
}

func (m *maker) kind() string { return m.one(m.kinds...) }

func (m *maker) row(most int) []named {
	var out []named
	for range m.Intn(most + 1) {
		out = append(out, named{m.fresh(out), m.kind(), true})
	}
	return out
}

func declared(list []named, between string) string {
	var out []string
	for _, n := range list {
		out = append(out, n.name+": "+n.kind)
	}
	return strings.Join(out, between)
}

// program: a program's text, its parts in any order.
func (m *maker) program() string {
	m.records, m.kinds = map[string][]named{}, []string{"int", "int", "real", "ints"}
	for range m.Intn(5) {
		m.records[m.one(pool...)] = nil
	}
	var names, items []string
	for n := range m.records {
		names = append(names, n)
	}
	slices.Sort(names)
	m.kinds = append(m.kinds, names...)
	for _, n := range names {
		m.records[n] = m.row(6)
		items = append(items, "record "+n+" { "+declared(m.records[n], "; ")+strings.Repeat(";", min(1, len(m.records[n])))+" }")
	}
	m.globals = m.row(8)
	for _, g := range m.globals {
		items = append(items, "global "+declared([]named{g}, "")+";")
	}
	m.funs = nil
	for range m.Intn(6) {
		items = append(items, m.fun())
	}
	for range 1 + m.Intn(4) {
		m.locals, m.open = nil, false
		items = append(items, "thread "+m.block())
	}
	m.Shuffle(len(items), func(i, j int) { items[i], items[j] = items[j], items[i] })
	return strings.Join(items, "\n")
}

func (m *maker) fun() string {
	var taken []named
	for _, f := range m.funs {
		taken = append(taken, named{name: f.name})
	}
	f := madeFun{name: m.fresh(taken), params: m.row(6)}
	m.locals, m.open, m.reach = slices.Clone(f.params), m.Intn(2) == 0, false
	body := m.block()
	f.reach = m.reach
	m.funs = append(m.funs, f)
	return "fun " + f.name + "(" + declared(f.params, ", ") + ") " + body
}

func (m *maker) block() string {
	seen := len(m.locals)
	m.deep++
	var out []string
	for range m.Intn(max(2, m.most-m.less*m.deep) + 1) {
		out = append(out, m.stmt())
	}
	m.deep--
	m.locals = m.locals[:seen]
	return "{ " + strings.Join(out, " ") + " }"
}

// touch: that what is shared is touched, if it may be.
func (m *maker) touch() bool {
	if m.open && !m.inside {
		m.reach = true
	}
	return m.open
}

func (m *maker) stmt() string {
	for {
		kind := m.Intn(15)
		if m.like != 0 && m.Intn(2) == 0 {
			kind = m.like
		}
		if s := m.tried(kind); s != "" {
			return s
		}
	}
}

// Kinds of statements that tried makes, of which there may be to be many.
const (
	aCall    = 10
	aSection = 13
	aMake    = 14
)

// tried: a statement of that kind, or none, if there is none that may be.
func (m *maker) tried(kind int) string {
	switch kind {
	case 0, 1:
		name, t := m.fresh(m.locals), m.kind()
		right := m.right(t)
		m.locals = append(m.locals, named{name, t, kind == 0})
		return []string{"let ", "var "}[kind] + name + " = " + right + ";"
	case 2, 3:
		if l, ok := m.chosen(m.locals, func(n named) bool { return !n.fixed }); ok {
			return l.name + " = " + m.right(l.kind) + ";"
		}
	case 4, 5, 6:
		t := m.kind()
		if p := m.place(t); p != "" && m.touch() {
			return "set " + p + " = " + m.expr(t) + ";"
		}
	case 7:
		return "print " + m.expr(m.one("int", "real")) + ";"
	case 8:
		if len(m.loops) > 0 {
			return m.one("break", "continue") + m.one(append([]string{"", ""}, m.labels()...)...) + ";"
		}
	case 9, aCall:
		return m.call()
	case aMake:
		if !m.touch() {
			return ""
		}
		if l, ok := m.chosen(m.locals, func(n named) bool { return n.kind == "ints" && !n.fixed }); ok {
			return l.name + " = new ints " + m.expr("int") + ";"
		}
		name := m.fresh(m.locals)
		m.locals = append(m.locals, named{name, "ints", false})
		return "var " + name + " = new ints 3;"
	default:
		if m.deep < m.deepest {
			return m.outer(kind)
		}
	}
	return ""
}

// labels: those that may be left, with a blank ahead.
func (m *maker) labels() []string {
	var out []string
	for _, l := range m.loops {
		if l != "" {
			out = append(out, " "+l)
		}
	}
	return out
}

func (m *maker) outer(kind int) string {
	switch kind {
	case 11:
		text := "if " + m.expr("int") + " " + m.block()
		if m.Intn(2) == 0 {
			text += " else " + m.block()
		}
		return text
	case 12:
		label := m.one("", pool[0], pool[4])
		if slices.Contains(m.loops, label) {
			label = ""
		}
		m.loops = append(m.loops, label)
		body := m.block()
		m.loops = m.loops[:len(m.loops)-1]
		return strings.TrimPrefix(fmt.Sprintf("%s: loop %d ", label, m.Intn(m.turns+1)), ": ") + body
	}
	open, inside, loops := m.open, m.inside, m.loops
	m.open, m.inside, m.loops = true, true, nil
	body := m.block()
	m.open, m.inside, m.loops = open, inside, loops
	return "atomic " + body
}

func (m *maker) call() string {
	if len(m.funs) == 0 {
		return ""
	}
	f := m.funs[m.Intn(len(m.funs))]
	if f.reach && !m.touch() {
		return ""
	}
	var args []string
	for _, p := range f.params {
		args = append(args, m.expr(p.kind))
	}
	return "call " + f.name + "(" + strings.Join(args, ", ") + ");"
}

// place: one of that type, or none.
func (m *maker) place(kind string) string {
	var all []string
	if g, ok := m.chosen(m.globals, ofKind(kind)); ok {
		all = append(all, g.name)
	}
	if l, ok := m.chosen(m.locals, ofKind("ints")); ok && kind == "int" {
		all = append(all, l.name+"["+m.expr("int")+"]")
	}
	l, _ := m.chosen(m.locals, func(l named) bool { return slices.ContainsFunc(m.records[l.kind], ofKind(kind)) })
	if f, ok := m.chosen(m.records[l.kind], ofKind(kind)); ok {
		all = append(all, l.name+"."+f.name)
	}
	if len(all) == 0 {
		return ""
	}
	return m.one(all...)
}

func (m *maker) right(kind string) string {
	_, isRecord := m.records[kind]
	switch m.Intn(5) {
	case 0, 1:
		if p := m.place(kind); p != "" && m.touch() {
			return "load " + p
		}
	case 2, 3:
		if isRecord && m.touch() {
			return "new " + kind
		}
		if kind == "ints" && m.touch() {
			return "new ints " + m.expr("int")
		}
		if l, ok := m.chosen(m.locals, ofKind("ints")); ok && kind == "int" {
			return "size " + l.name
		}
	}
	return m.expr(kind)
}

// expr: an expression of that type. How deep it is hangs on chance, and ends long ahead of where a text would.
func (m *maker) expr(kind string) string {
	if l, ok := m.chosen(m.locals, ofKind(kind)); ok && m.Intn(2) == 0 {
		return l.name
	}
	if m.Intn(3) > 0 || m.deep > 8 || kind != "int" && kind != "real" {
		return m.atom(kind)
	}
	m.deep++
	defer func() { m.deep-- }()
	switch m.Intn(6) {
	case 0:
		return "-" + m.expr(kind)
	case 1:
		return map[string]string{"int": "trunc ", "real": "real "}[kind] + m.expr(map[string]string{"int": "real", "real": "int"}[kind])
	case 2, 3:
		if kind == "int" && m.Intn(2) == 0 {
			return m.joined(m.kind(), "==", "!=")
		}
		if kind == "int" {
			return m.joined(m.one("int", "real"), "<", "<=")
		}
	case 4:
		if m.most > 8 && m.Intn(10) == 0 {
			return "(" + strings.Repeat(m.atom(kind)+" + ", 20+m.Intn(20)) + m.expr(kind) + ")"
		}
	}
	return m.joined(kind, strings.Fields("+ - * / %")[:map[string]int{"int": 5, "real": 4}[kind]]...)
}

func (m *maker) joined(kind string, signs ...string) string {
	return "(" + m.expr(kind) + " " + m.one(signs...) + " " + m.expr(kind) + ")"
}

func (m *maker) atom(kind string) string {
	switch kind {
	case "int":
		return m.one("0", "1", "2", fmt.Sprint(m.Intn(20)), fmt.Sprint("input ", m.Intn(16)))
	case "real":
		return fmt.Sprintf("#%016x", []uint64{m.Uint64(), 0x7ff0000000000001 + m.Uint64()>>13, 0x3ff8000000000000}[m.Intn(3)])
	}
	return "nil " + kind
}
