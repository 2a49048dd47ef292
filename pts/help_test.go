package pts_test

import (
	"fmt"
	"strings"
	"testing"

	"padlock/api"
	"padlock/code"
	"padlock/pts"
)

func local(kind int) api.Local { return api.Local{Kind: kind} }

func ref(rec int) api.Local { return api.Local{Kind: api.Ref, Rec: rec} }

var (
	anInt = local(api.Int)
	aReal = local(api.Real)
	ints  = local(api.Ints)
)

func row[T any](list ...T) []T { return list }

func push(n uint64) api.Item { return api.Item{Op: api.Push, N: n} }

func slot(n int) api.Item { return api.Item{Op: api.Slot, N: uint64(n)} }

func bin(op, b int) api.Item { return api.Item{Op: op, Bin: b} }

// sum: an expression that names those slots, each of them as often as it stands there.
func sum(slots ...int) []api.Item {
	items := row(push(0))
	for _, n := range slots {
		items = append(items, slot(n), bin(api.BinInt, 0))
	}
	return items
}

func calc(dst int, items ...api.Item) api.Instr {
	return api.Instr{Op: api.DoCalc, Dst: dst, Items: items}
}

// move: what is in a slot, to another one.
func move(dst, src int) api.Instr { return calc(dst, slot(src)) }

func loadG(dst, global int) api.Instr { return api.Instr{Op: api.LoadG, Dst: dst, N: global} }

func storeG(global int, items ...api.Item) api.Instr {
	return api.Instr{Op: api.StoreG, N: global, Items: items}
}

func loadF(dst, src, rec, field int) api.Instr {
	return api.Instr{Op: api.LoadF, Dst: dst, Src: src, Rec: rec, N: field}
}

func storeF(src, rec, field int, items ...api.Item) api.Instr {
	return api.Instr{Op: api.StoreF, Src: src, Rec: rec, N: field, Items: items}
}

// makeRec, makeInts: makes; coded gives them their sites, one by one.
func makeRec(dst, rec int) api.Instr { return api.Instr{Op: api.MakeRec, Dst: dst, Rec: rec} }

func makeInts(dst int) api.Instr {
	return api.Instr{Op: api.MakeInts, Dst: dst, Items: row(push(2))}
}

// idle: an instruction that does nothing to any set.
func idle() api.Instr { return api.Instr{Op: api.PutInt, Items: row(push(7))} }

// within: a thread's instructions, all of them in one section, whose number coded gives.
func within(slots []api.Local, list ...api.Instr) api.Body {
	all := row(api.Instr{Op: api.Begin})
	all = append(append(all, list...), api.Instr{Op: api.Leave}, api.Instr{Op: api.Halt})
	return api.Body{Slots: slots, Code: all}
}

// coded: a code of those parts, with its sites and sections numbered as they come.
func coded(records [][]api.Local, globals []api.Local, threads ...api.Body) api.Code {
	c := api.Code{Records: records, Globals: globals, Threads: threads}
	for thread, b := range threads {
		for at := range b.Code {
			switch x := &b.Code[at]; x.Op {
			case api.MakeRec, api.MakeInts:
				x.N = len(c.Sites)
				s := api.Site{Thread: thread, At: at, Rec: x.Rec}
				if x.Op == api.MakeInts {
					s.Rec = -1
				}
				c.Sites = append(c.Sites, s)
			case api.Begin:
				x.N = len(c.Sections)
				c.Sections = append(c.Sections, api.Section{Thread: thread, From: at})
			case api.Leave:
				x.N = len(c.Sections) - 1
				c.Sections[x.N].To = at
			}
		}
	}
	return c
}

// setText: a set's sites, as 0,3; -: none.
func setText(set uint64) string {
	var out []string
	for k := range 64 {
		if set>>k&1 == 1 {
			out = append(out, fmt.Sprint(k))
		}
	}
	if len(out) == 0 {
		return "-"
	}
	return strings.Join(out, ",")
}

func rowText(list []uint64) string {
	out := ""
	for _, set := range list {
		out += " " + setText(set)
	}
	return out
}

// listing: all sets: a line for each thread, one of the globals, one for each site.
func listing(s api.Sets) string {
	out := ""
	for _, list := range s.Slots {
		out += "slots" + rowText(list) + "\n"
	}
	out += "globals" + rowText(s.Globals) + "\n"
	for _, list := range s.Fields {
		out += "fields" + rowText(list) + "\n"
	}
	return out
}

// lines: those of a text, without what stands ahead of them, and without empty ones.
func lines(text string) string {
	out := ""
	for line := range strings.Lines(text) {
		if line = strings.TrimSpace(line); line != "" {
			out += line + "\n"
		}
	}
	return out
}

// solved: the sets of a code that can be; the other telling must say the same.
func solved(t *testing.T, c api.Code) api.Sets {
	t.Helper()
	if !code.Good(c) {
		t.Fatalf("%+v can't be", c)
	}
	got := pts.Solve(c)
	if want := listing(told(c)); listing(got) != want {
		t.Fatalf("%+v:\n%s\nthe other telling says:\n%s", c, listing(got), want)
	}
	return got
}

// are: that the sets of a code are those of a listing.
func are(t *testing.T, what string, c api.Code, want string) {
	t.Helper()
	if got := listing(solved(t, c)); got != lines(want) {
		t.Errorf("%s:\n%s\nnot:\n%s", what, got, lines(want))
	}
}

// facts: all sets that have something: t1.2 is the slot 2 of the thread 1, g3 a global, f4.0 the field 0 of the site 4.
func facts(s api.Sets) string {
	var out []string
	put := func(ahead string, list []uint64) {
		for n, set := range list {
			if set != 0 {
				out = append(out, fmt.Sprintf("%s%d=%s", ahead, n, setText(set)))
			}
		}
	}
	for thread, list := range s.Slots {
		put(fmt.Sprintf("t%d.", thread), list)
	}
	put("g", s.Globals)
	for site, list := range s.Fields {
		put(fmt.Sprintf("f%d.", site), list)
	}
	return strings.Join(out, " ")
}

// has: that just those sets of a code have something, and what.
func has(t *testing.T, what string, c api.Code, want string) {
	t.Helper()
	if got := facts(solved(t, c)); got != want {
		t.Errorf("%s: %s\nnot: %s", what, got, want)
	}
}

// kinds: one of each Kind.
func kinds() []api.Local { return row(anInt, aReal, ints, ref(0), ref(1)) }

// records: R 0 has a field of each Kind, R 1 as many, in another order, R 2 two, R 3 none.
func records() [][]api.Local {
	return row(kinds(), row(ref(1), ref(0), anInt, ints, aReal), row(ref(2), anInt), nil)
}

// Slots of the threads that with makes: five of kinds, to which nothing comes, and five that have a site each, the sites 0 to 4.
const (
	refA   = iota + 5 // R 0
	refB              // R 1
	refC              // R 2
	array             // Ints
	other             // Ints
	before = "t0.5=0 t0.6=1 t0.7=2 t0.8=3 t0.9=4"
)

// with: a code of one thread, that makes its five things, and then has those instructions.
func with(list ...api.Instr) api.Code {
	slots := append(kinds(), ref(0), ref(1), ref(2), ints, ints)
	made := row(makeRec(refA, 0), makeRec(refB, 1), makeRec(refC, 2), makeInts(array), makeInts(other))
	return coded(records(), kinds(), within(slots, append(made, list...)...))
}
