package path_test

import (
	"testing"

	"padlock/api"
)

// thing is a record, or an array of no cells, of a run.
type thing struct {
	rec    int
	fields []int
	fresh  bool
}

// run is a run of a section: what is in slots, globals and fields is nobody (0), the thing whose place is one less, or, of numbers, anything below 0.
type run struct {
	c       api.Code
	list    []api.Instr
	slots   []int
	globals []int
	things  []thing
	// given: which slots were given a value so far.
	given map[int]bool
}

// started: a run at the beginning of a section, from anything that may be there.
func (m *maker) started(c api.Code, section int) *run {
	r := &run{c: c, list: insideOf(c, section), given: map[int]bool{}}
	for rec, fields := range c.Records {
		for range 1 + m.Intn(3) {
			r.things = append(r.things, thing{rec: rec, fields: make([]int, len(fields))})
		}
	}
	r.things = append(r.things, thing{rec: -1})
	for _, x := range r.things {
		for n := range x.fields {
			x.fields[n] = m.anything(r, c.Records[x.rec][n])
		}
	}
	for _, l := range c.Globals {
		r.globals = append(r.globals, m.anything(r, l))
	}
	for _, l := range c.Threads[c.Sections[section].Thread].Slots {
		r.slots = append(r.slots, m.anything(r, l))
	}
	return r
}

// anything: something of a Local's Kind; rarely nobody.
func (m *maker) anything(r *run, l api.Local) int {
	if l.Kind == api.Int || l.Kind == api.Real {
		return -1 - m.Intn(1000)
	}
	rec := l.Rec
	if l.Kind == api.Ints {
		rec = -1
	}
	for _, n := range m.Perm(len(r.things)) {
		if r.things[n].rec == rec && m.Intn(20) > 0 {
			return n + 1
		}
	}
	return 0
}

// leads: what a path leads to.
func (r *run) leads(p api.Path) int {
	at := 0
	if p.Global {
		at = r.globals[p.N]
	} else {
		at = r.slots[p.N]
	}
	for _, n := range p.Fields {
		at = r.things[at-1].fields[n]
	}
	return at
}

func (r *run) meant(t *testing.T, at int) *thing {
	if at < 1 {
		t.Fatalf("%+v: %d is no thing", r.c, at)
	}
	return &r.things[at-1]
}

// ready: whether what an instruction reads has its value, and means a thing where one is asked for.
func (r *run) ready(x api.Instr) bool {
	has := func(slot int) bool { return r.given[slot] || len(givers(r.list, slot)) == 0 }
	for _, item := range append(append([]api.Item{}, x.Items...), x.Index...) {
		if item.Op == api.Slot && !has(int(item.N)) {
			return false
		}
	}
	if x.Op != api.LoadF && x.Op != api.StoreF {
		return true
	}
	return has(x.Src) && r.slots[x.Src] > 0
}

// does: that an instruction is done; what comes to its slot, if one is given a value.
func (m *maker) does(t *testing.T, r *run, x api.Instr, slots []api.Local) int {
	switch x.Op {
	case api.DoCalc:
		if len(x.Items) == 1 && x.Items[0].Op == api.Slot {
			return r.slots[x.Items[0].N]
		}
	case api.LoadG:
		return r.globals[x.N]
	case api.LoadF:
		return r.meant(t, r.slots[x.Src]).fields[x.N]
	case api.StoreG:
		r.globals[x.N] = m.anything(r, r.c.Globals[x.N])
	case api.StoreF:
		r.meant(t, r.slots[x.Src]).fields[x.N] = m.anything(r, r.c.Records[x.Rec][x.N])
	case api.MakeRec:
		made := thing{rec: x.Rec, fresh: true}
		for _, l := range r.c.Records[x.Rec] {
			made.fields = append(made.fields, m.anything(r, l))
		}
		r.things = append(r.things, made)
		return len(r.things)
	case api.MakeInts:
		r.things = append(r.things, thing{rec: -1, fresh: true})
		return len(r.things)
	}
	if len(givers(row(x), x.Dst)) == 0 {
		return 0
	}
	return m.anything(r, slots[x.Dst])
}

// follow lets a section do its instructions in any order, as often as may be, as long as what they read is there: each slot of which a Way is known must come to mean what it led to as the section began, and each Fresh one something new. It answers how many slots of which something is known were given a value.
func (m *maker) follow(t *testing.T, c api.Code, section int, known []api.Value) int {
	t.Helper()
	r := m.started(c, section)
	if len(r.list) == 0 || !kept(c) {
		return 0
	}
	before := r.copied()
	slots := c.Threads[c.Sections[section].Thread].Slots
	count := 0
	for range 4 * len(r.list) {
		x := pick(m, r.list)
		if !r.ready(x) {
			continue
		}
		value := m.does(t, r, x, slots)
		if len(givers(row(x), x.Dst)) == 0 {
			continue
		}
		r.slots[x.Dst] = value
		r.given[x.Dst] = true
		switch known[x.Dst].Kind {
		case api.Way:
			if want := before.leads(known[x.Dst].Path); value != want {
				t.Fatalf("%+v: of the slot %d %s is known, which led to %d, but it means %d", c, x.Dst, valueText(known[x.Dst]), want, value)
			}
			count++
		case api.Fresh:
			if !r.meant(t, value).fresh {
				t.Fatalf("%+v: the slot %d isn't new", c, x.Dst)
			}
			count++
		}
	}
	return count
}

// copied: a run as it is now.
func (r *run) copied() *run {
	out := &run{c: r.c, list: r.list, slots: append([]int{}, r.slots...), globals: append([]int{}, r.globals...)}
	for _, x := range r.things {
		x.fields = append([]int{}, x.fields...)
		out.things = append(out.things, x)
	}
	return out
}
