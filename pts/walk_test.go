package pts_test

import (
	"testing"

	"padlock/api"
)

// thing: what was made at a site; its fields.
type thing struct {
	site   int
	fields []*thing
}

// world: what is where as instructions are done, one behind the other.
type world struct {
	m       maker
	c       api.Code
	slots   [][]*thing
	globals []*thing
	met     api.Sets
}

// walk does instructions of a code in any order at all, and answers what was met where; nothing may be met that isn't in the sets.
func (m maker) walk(t *testing.T, c api.Code, s api.Sets, turns int) api.Sets {
	t.Helper()
	w := world{m: m, c: c, globals: make([]*thing, len(c.Globals))}
	w.met.Globals = make([]uint64, len(c.Globals))
	for _, b := range c.Threads {
		w.slots = append(w.slots, make([]*thing, len(b.Slots)))
		w.met.Slots = append(w.met.Slots, make([]uint64, len(b.Slots)))
	}
	for _, list := range s.Fields {
		w.met.Fields = append(w.met.Fields, make([]uint64, len(list)))
	}
	for range turns {
		thread := m.Intn(len(c.Threads))
		w.do(thread, pick(m, c.Threads[thread].Code))
	}
	if !subset(w.met, s, -1) {
		t.Fatalf("%+v: there was:\n%s\nnot within:\n%s", c, listing(w.met), listing(s))
	}
	return w.met
}

func isThing(l api.Local) bool { return l.Kind == api.Ref || l.Kind == api.Ints }

// put lets a thing be somewhere, if things may be there, and notes that it was met.
func (w *world) put(at **thing, met *uint64, l api.Local, what *thing) {
	if !isThing(l) {
		return
	}
	*at = what
	if what != nil {
		*met |= 1 << what.site
	}
}

func (w *world) do(thread int, x api.Instr) {
	slots, locals := w.slots[thread], w.c.Threads[thread].Slots
	dst := func(what *thing) { w.put(&slots[x.Dst], &w.met.Slots[thread][x.Dst], locals[x.Dst], what) }
	switch x.Op {
	case api.DoCalc:
		dst(w.value(thread, x.Items))
	case api.LoadG:
		dst(w.globals[x.N])
	case api.StoreG:
		w.put(&w.globals[x.N], &w.met.Globals[x.N], w.c.Globals[x.N], w.value(thread, x.Items))
	case api.LoadF:
		if src := slots[x.Src]; src != nil && x.N < len(src.fields) {
			dst(src.fields[x.N])
		}
	case api.StoreF:
		if src := slots[x.Src]; src != nil && w.c.Sites[src.site].Rec == x.Rec {
			w.put(&src.fields[x.N], &w.met.Fields[src.site][x.N], w.c.Records[x.Rec][x.N], w.value(thread, x.Items))
		}
	case api.MakeRec:
		dst(&thing{site: x.N, fields: make([]*thing, len(w.c.Records[x.Rec]))})
	case api.MakeInts:
		dst(&thing{site: x.N})
	}
}

// value: one of those that items name.
func (w *world) value(thread int, items []api.Item) *thing {
	var all []*thing
	for _, item := range items {
		if item.Op == api.Slot {
			all = append(all, w.slots[thread][item.N])
		}
	}
	if len(all) == 0 {
		return nil
	}
	return pick(w.m, all)
}
