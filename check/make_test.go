package check_test

import (
	"fmt"
	"math/rand"
	"slices"
	"strings"
)

// pool: names, for whatever there is; few, so that things of all kinds meet in one name.
var pool = []string{"a", "b", "c", "d", "x", "R"}

type field struct {
	name, kind string
	fixed      bool
}

// maker writes texts by chance that mean something, but for slips: one in so many choices is made without a look at what may be.
type maker struct {
	*rand.Rand
	slips   int
	records map[string][]field
	globals []field
	funs    []madeFun // those that a body may call
	locals  []field
	loops   []string
	open    bool // in a thread, outside all Atomics
	touched bool // something shared was touched outside all Atomics
	closed  bool // within an Atomic
	deep    int
}

type madeFun struct {
	name   string
	params []field
	reach  bool
	text   string
}

func (m *maker) slip() bool { return m.slips > 0 && m.Intn(m.slips) == 0 }

func (m *maker) one(of ...string) string { return of[m.Intn(len(of))] }

// fresh: a name that isn't there yet, if there is one.
func (m *maker) fresh(list []field) string {
	for range 20 {
		name := m.one(pool...)
		if !slices.ContainsFunc(list, func(f field) bool { return f.name == name }) || m.slip() {
			return name
		}
	}
	return fmt.Sprint("y", m.Intn(1000))
}

func (m *maker) kind() string {
	names := append([]string{"int", "real", "ints", "int"}, m.recordNames()...)
	if m.slip() {
		names = append(names, "Nix")
	}
	return m.one(names...)
}

func (m *maker) recordNames() []string {
	var out []string
	for n := range m.records {
		out = append(out, n)
	}
	slices.Sort(out)
	return out
}

func (m *maker) fields(most int) []field {
	var out []field
	for range m.Intn(most + 1) {
		out = append(out, field{m.fresh(out), m.kind(), true})
	}
	return out
}

func texts(list []field, between string) string {
	var out []string
	for _, f := range list {
		out = append(out, f.name+": "+f.kind)
	}
	return strings.Join(out, between)
}

// program writes a program: its functions, of which each one calls those behind it alone, and all else in any order.
func (m *maker) program() string {
	m.records = map[string][]field{}
	for range m.Intn(4) {
		m.records[m.one(pool...)] = nil
	}
	var items []string
	for _, n := range m.recordNames() {
		m.records[n] = m.fields(4)
		items = append(items, "record "+n+" { "+texts(m.records[n], "; ")+strings.Repeat(";", min(1, len(m.records[n])))+" }")
	}
	m.globals = m.fields(5)
	for _, g := range m.globals {
		items = append(items, "global "+g.name+": "+g.kind+";")
	}
	m.funs = nil
	for range m.Intn(5) {
		m.fun()
	}
	for _, f := range m.funs {
		items = append(items, f.text)
	}
	m.open = true
	for range m.Intn(4) + m.Intn(1+m.Intn(2)) {
		m.locals, m.touched = nil, false
		items = append(items, "thread "+m.block(6))
	}
	m.Shuffle(len(items), func(i, j int) { items[i], items[j] = items[j], items[i] })
	return strings.Join(items, m.one(" ", "\n", "\n\n "))
}

func (m *maker) fun() {
	m.open, m.touched = false, false
	taken := []field{}
	for _, f := range m.funs {
		taken = append(taken, field{name: f.name})
	}
	f := madeFun{name: m.fresh(taken), params: m.fields(3)}
	m.locals = slices.Clone(f.params)
	if m.slip() { // it may call itself then
		m.funs = append(m.funs, f)
		defer func() { m.funs = slices.DeleteFunc(m.funs, func(g madeFun) bool { return g.text == "" }) }()
	}
	body := m.block(4)
	f.reach = m.touched
	f.text = "fun " + f.name + "(" + texts(f.params, ", ") + ") " + body
	m.funs = append(m.funs, f)
}

func (m *maker) block(most int) string {
	seen, loops := len(m.locals), len(m.loops)
	m.deep++
	var out []string
	for range m.Intn(most + 1) {
		out = append(out, m.stmt())
	}
	m.deep--
	m.locals, m.loops = m.locals[:seen], m.loops[:loops]
	return "{" + m.one(" ", "\n\t") + strings.Join(out, m.one(" ", "\n\t")) + " }"
}

// mayTouch: whether what is shared may be touched here.
func (m *maker) mayTouch() bool {
	if !m.open || m.slip() || m.slip() || m.slip() {
		m.touched = m.touched || !m.closed
		return true
	}
	return false
}

func (m *maker) stmt() string {
	for {
		if s := m.tried(m.Intn(12)); s != "" {
			return s
		}
	}
}

// tried: a statement of that kind, or none, if there is none that may be.
func (m *maker) tried(kind int) string {
	switch kind {
	case 0, 1:
		fixed := kind == 0
		name, t := m.fresh(m.locals), m.kind()
		right := m.right(t)
		m.locals = append(m.locals, field{name, t, fixed})
		return map[bool]string{true: "let ", false: "var "}[fixed] + name + " = " + right + ";"
	case 2:
		l, ok := m.local(func(f field) bool { return !f.fixed })
		if !ok {
			return ""
		}
		return l.name + " = " + m.right(l.kind) + ";"
	case 3:
		t := m.kind()
		if p := m.place(t); p != "" && m.mayTouch() {
			return "set " + p + " = " + m.expr(t) + ";"
		}
	case 4:
		return "print " + m.expr(m.one("int", "real")) + ";"
	case 5, 6, 7, 8:
		if m.deep < 6 {
			return m.outer(kind)
		}
	case 9, 10:
		if len(m.loops) > 0 || m.slip() {
			return m.one("break", "continue") + m.one(append([]string{"", ""}, m.labels()...)...) + ";"
		}
	case 11:
		return m.call()
	}
	return ""
}

// labels: those that may be left, with a blank ahead.
func (m *maker) labels() []string {
	var out []string
	for _, l := range m.loops {
		if l != "" {
			out = append(out, " "+l)
		}
	}
	if m.slip() {
		out = append(out, " "+m.one(pool...))
	}
	return out
}

func (m *maker) outer(kind int) string {
	switch kind {
	case 5:
		text := "if " + m.expr("int") + " " + m.block(3)
		if m.Intn(2) == 0 {
			text += " else " + m.block(3)
		}
		return text
	case 6:
		label := m.one("", "", m.one(pool...))
		if slices.Contains(m.loops, label) && !m.slip() {
			label = ""
		}
		turns := fmt.Sprint(m.Intn(101))
		if m.slip() {
			turns = m.one("100", "101")
		}
		m.loops = append(m.loops, label)
		body := m.block(3)
		m.loops = m.loops[:len(m.loops)-1]
		return strings.TrimPrefix(label+": loop ", ": ") + turns + " " + body
	}
	open, closed, loops := m.open, m.closed, m.loops
	m.open, m.closed, m.loops = false, true, nil
	body := m.block(4)
	m.open, m.closed, m.loops = open, closed, loops
	return "atomic " + body
}

func (m *maker) call() string {
	if len(m.funs) == 0 {
		return ""
	}
	f := m.funs[m.Intn(len(m.funs))]
	if f.reach && !m.mayTouch() {
		return ""
	}
	var args []string
	for _, p := range f.params {
		args = append(args, m.expr(p.kind))
	}
	if m.slip() {
		args = append(args, m.expr(m.kind()))
	}
	if m.slip() {
		f.name = m.one(pool...)
	}
	return "call " + f.name + "(" + strings.Join(args, ", ") + ");"
}

// local: one of those that are meant, by chance; not ok: there is none.
func (m *maker) local(meant func(field) bool) (field, bool) {
	if m.slip() {
		return field{m.one(pool...), m.kind(), false}, true
	}
	return m.of(m.locals, meant)
}

func (m *maker) of(list []field, meant func(field) bool) (field, bool) {
	var all []field
	for _, f := range list {
		if meant(f) || m.slip() {
			all = append(all, f)
		}
	}
	if len(all) == 0 {
		return field{}, false
	}
	return all[m.Intn(len(all))], true
}

// place: one of that type, or none.
func (m *maker) place(kind string) string {
	is := func(f field) bool { return f.kind == kind }
	switch m.Intn(3) {
	case 0:
		g, _ := m.of(m.globals, is)
		return g.name
	case 1:
		l, ok := m.local(func(f field) bool { return f.kind == "ints" })
		if ok && kind == "int" {
			return l.name + "[" + m.expr("int") + "]"
		}
	case 2:
		l, ok := m.local(func(l field) bool { return slices.ContainsFunc(m.records[l.kind], is) })
		if f, ok2 := m.of(m.records[l.kind], is); ok && ok2 {
			return l.name + "." + f.name
		}
	}
	return ""
}

func (m *maker) right(kind string) string {
	_, isRecord := m.records[kind]
	switch m.Intn(4) {
	case 0:
		if p := m.place(kind); p != "" && m.mayTouch() {
			return "load " + p
		}
	case 1:
		if (isRecord || kind == "Nix") && m.mayTouch() {
			return "new " + kind
		}
		if kind == "ints" && m.mayTouch() {
			return "new ints " + m.expr("int")
		}
	case 2:
		if l, ok := m.local(func(f field) bool { return f.kind == "ints" }); ok && kind == "int" {
			return "size " + l.name
		}
	}
	return m.expr(kind)
}

// expr: an expression of that type. How deep it is hangs on chance, and ends long ahead of where a text would.
func (m *maker) expr(kind string) string {
	if m.slip() {
		kind = m.kind()
	}
	if l, ok := m.local(func(f field) bool { return f.kind == kind }); ok && m.Intn(2) == 0 {
		return l.name
	}
	if m.Intn(3) > 0 || m.deep > 8 || kind != "int" && kind != "real" {
		return m.atom(kind)
	}
	m.deep++
	defer func() { m.deep-- }()
	switch m.Intn(6) {
	case 0:
		return "-" + m.expr(kind)
	case 1:
		return map[string]string{"int": "trunc ", "real": "real "}[kind] + m.expr(map[string]string{"int": "real", "real": "int"}[kind])
	case 2, 3:
		if kind == "int" {
			return m.compared()
		}
	}
	return m.joined(kind, strings.Fields("+ - * / %")[:map[string]int{"int": 5, "real": 4}[kind]]...)
}

func (m *maker) compared() string {
	if m.Intn(2) == 0 {
		return m.joined(m.kind(), "==", "!=")
	}
	return m.joined(m.one("int", "real"), "<", "<=")
}

func (m *maker) joined(kind string, signs ...string) string {
	return "(" + m.expr(kind) + " " + m.one(signs...) + " " + m.expr(kind) + ")"
}

func (m *maker) atom(kind string) string {
	switch kind {
	case "int":
		return m.one("0", "7", fmt.Sprint("input ", m.Intn(16+m.Intn(2)*m.Intn(2)*min(m.slips, 1))))
	case "real":
		return fmt.Sprintf("#%016x", m.Uint64())
	}
	return "nil " + kind
}
