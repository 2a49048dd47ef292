package path_test

import (
	"fmt"
	"strings"
	"testing"

	"padlock/api"
	"padlock/code"
	"padlock/path"
)

func local(kind int) api.Local { return api.Local{Kind: kind} }

func ref(rec int) api.Local { return api.Local{Kind: api.Ref, Rec: rec} }

func once(l api.Local) api.Local {
	l.Once = true
	return l
}

var (
	anInt = local(api.Int)
	aReal = local(api.Real)
	ints  = local(api.Ints)
)

func row[T any](list ...T) []T { return list }

func times[T any](n int, x T) []T {
	out := make([]T, n)
	for i := range out {
		out[i] = x
	}
	return out
}

func push(n uint64) api.Item { return api.Item{Op: api.Push, N: n} }

func slot(n int) api.Item { return api.Item{Op: api.Slot, N: uint64(n)} }

func calc(dst int, items ...api.Item) api.Instr {
	return api.Instr{Op: api.DoCalc, Dst: dst, Items: items}
}

// move: what is in a slot, to another one.
func move(dst, src int) api.Instr { return calc(dst, slot(src)) }

func loadG(dst, global int) api.Instr { return api.Instr{Op: api.LoadG, Dst: dst, N: global} }

func storeG(global int) api.Instr {
	return api.Instr{Op: api.StoreG, N: global, Items: row(push(0))}
}

func loadF(dst, src, rec, field int) api.Instr {
	return api.Instr{Op: api.LoadF, Dst: dst, Src: src, Rec: rec, N: field}
}

func storeF(src, rec, field int) api.Instr {
	return api.Instr{Op: api.StoreF, Src: src, Rec: rec, N: field, Items: row(push(0))}
}

func loadE(dst, src int, index ...api.Item) api.Instr {
	return api.Instr{Op: api.LoadE, Dst: dst, Src: src, Index: index}
}

func storeE(src int, index ...api.Item) api.Instr {
	return api.Instr{Op: api.StoreE, Src: src, Index: index, Items: row(push(0))}
}

func sizeOf(dst, src int) api.Instr { return api.Instr{Op: api.SizeOf, Dst: dst, Src: src} }

// makeRec, makeInts: makes; coded gives them their sites, one by one.
func makeRec(dst, rec int) api.Instr { return api.Instr{Op: api.MakeRec, Dst: dst, Rec: rec} }

func makeInts(dst int) api.Instr {
	return api.Instr{Op: api.MakeInts, Dst: dst, Items: row(push(2))}
}

// begin, leave, halt: coded numbers the sections.
func begin() api.Instr { return api.Instr{Op: api.Begin} }

func leave() api.Instr { return api.Instr{Op: api.Leave} }

func halt() api.Instr { return api.Instr{Op: api.Halt} }

// section: those instructions, in a section.
func section(list ...api.Instr) []api.Instr {
	return append(append(row(begin()), list...), leave())
}

// thread: a thread of those slots, that does one part behind the other.
func thread(slots []api.Local, parts ...[]api.Instr) api.Body {
	b := api.Body{Slots: slots}
	for _, part := range parts {
		b.Code = append(b.Code, part...)
	}
	b.Code = append(b.Code, halt())
	return b
}

// coded: a code of those parts, with its sites and sections numbered as they come.
func coded(records [][]api.Local, globals []api.Local, threads ...api.Body) api.Code {
	c := api.Code{Records: records, Globals: globals, Threads: threads}
	for thread, b := range threads {
		for at := range b.Code {
			switch x := &b.Code[at]; x.Op {
			case api.MakeRec, api.MakeInts:
				x.N = len(c.Sites)
				s := api.Site{Thread: thread, At: at, Rec: x.Rec}
				if x.Op == api.MakeInts {
					s.Rec = -1
				}
				c.Sites = append(c.Sites, s)
			case api.Begin:
				x.N = len(c.Sections)
				c.Sections = append(c.Sections, api.Section{Thread: thread, From: at})
			case api.Leave:
				x.N = len(c.Sections) - 1
				c.Sections[x.N].To = at
			}
		}
	}
	return c
}

// renumbered: a code with other numbers of its sections, in their order.
func renumbered(c api.Code, numbers ...int) api.Code {
	was := c.Sections
	c.Sections = make([]api.Section, len(was))
	for old, n := range numbers {
		s := was[old]
		c.Sections[n] = s
		c.Threads[s.Thread].Code[s.From].N, c.Threads[s.Thread].Code[s.To].N = n, n
	}
	return c
}

// valueText: ? nothing is known; new: Fresh; s2.0.1, g2.0.1: a Way from a slot, or a global, by fields.
func valueText(v api.Value) string {
	out := "?"
	switch {
	case v.Kind == api.Fresh:
		out = "new"
	case v.Kind == api.Way && v.Path.Global:
		out = fmt.Sprint("g", v.Path.N)
	case v.Kind == api.Way:
		out = fmt.Sprint("s", v.Path.N)
	}
	if v.Kind < api.Unknown || v.Kind > api.Way || v.Kind != api.Way && (v.Path.Global || v.Path.N != 0 || len(v.Path.Fields) > 0) {
		out = fmt.Sprintf("%+v", v)
	}
	if v.Kind == api.Way {
		for _, n := range v.Path.Fields {
			out += fmt.Sprint(".", n)
		}
	}
	return out
}

func listing(list []api.Value) string {
	out := make([]string, len(list))
	for n, v := range list {
		out[n] = valueText(v)
	}
	return strings.Join(out, " ")
}

// of: what is known in a section of a code that can be; the other telling must say the same.
func of(t *testing.T, c api.Code, section int) []api.Value {
	t.Helper()
	if !code.Good(c) {
		t.Fatalf("%+v can't be", c)
	}
	got := path.Of(c, section)
	if want := strings.Join(told(c, section), " "); listing(got) != want {
		t.Fatalf("%+v, section %d:\n%s\nthe other telling says:\n%s", c, section, listing(got), want)
	}
	unstored(t, c, section, got)
	return got
}

// is: that what is known in a section of a code is that.
func is(t *testing.T, what string, c api.Code, section int, want string) {
	t.Helper()
	if got := listing(of(t, c, section)); got != want {
		t.Errorf("%s: %s\nnot: %s", what, got, want)
	}
}

// Records of nodes: two fields that are the record itself, one of the other record, one of each other Kind; and the same again in other places.
const (
	left = iota
	right
	twin
	number
	part
	list
)

func nodes() [][]api.Local {
	return row(row(ref(0), ref(0), ref(1), anInt, aReal, ints), row(ref(1), ref(1), ref(0), anInt, aReal, ints))
}

// Globals of nodes.
const (
	gA = iota
	gB
	gTwin
	gNumber
	gPart
	gList
)

// globals: two of the record 0, one of the record 1, one of each other Kind.
func globals() []api.Local { return row(ref(0), ref(0), ref(1), anInt, aReal, ints) }

// Slots of one: all Once, but for those that are plain.
const (
	ra = iota // the record 0, as are rb to re
	rb
	rc
	rd
	re
	ta // the record 1
	tb
	whole
	frac
	array
	plain // the record 0
	plainTwin
	plainNum
	plainArray
)

func slots() []api.Local {
	list := times(5, once(ref(0)))
	list = append(list, once(ref(1)), once(ref(1)), once(anInt), once(aReal), once(ints))
	return append(list, ref(0), ref(1), anInt, ints)
}

// start: what is known of all slots where a section gives none a value.
func start() []string {
	out := make([]string, len(slots()))
	for n := range out {
		out[n] = fmt.Sprint("s", n)
	}
	return out
}

// one: a code of one section, that does this.
func one(list ...api.Instr) api.Code {
	return coded(nodes(), globals(), thread(slots(), section(list...)))
}

// known: what is known of some slots; of all others it is the Way from themselves.
type known map[int]string

// in: that just this is known in a section of a code.
func in(t *testing.T, what string, c api.Code, section int, want known) {
	t.Helper()
	all := start()
	for n, text := range want {
		all[n] = text
	}
	is(t, what, c, section, strings.Join(all, " "))
}

// will: likewise, of a section that does this.
func will(t *testing.T, what string, list []api.Instr, want known) {
	t.Helper()
	in(t, what, one(list...), 0, want)
}
