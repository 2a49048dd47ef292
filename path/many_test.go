package path_test

import (
	"math"
	"reflect"
	"slices"
	"strings"
	"testing"

	"padlock/api"
	"padlock/code"
	"padlock/path"
)

// P13.1, P13.2: codes by chance: that another telling says the same, that no path goes by what is stored, that the order of instructions plays no part, and that each way that a section goes comes to what was told.
func TestManyCodes(t *testing.T) {
	t.Parallel()
	m := made(13)
	seen, followed := map[string]int{}, 0
	for i := range 8000 {
		c := m.code(2+i%20, 4+i%30)
		other := m.shuffled(c)
		for section := range c.Sections {
			known := of(t, c, section)
			if got := listing(path.Of(other, section)); got != listing(known) {
				t.Fatalf("%+v, section %d: %s\nin another order: %s", c, section, listing(known), got)
			}
			for _, v := range known {
				text := valueText(v)
				seen[text[:1]+strings.Repeat(".", strings.Count(text, "."))]++
			}
			followed += m.follow(t, c, section, known)
		}
	}
	for _, what := range row("?", "n", "s", "s.", "s..", "s...", "g", "g.", "g..", "g...") {
		if seen[what] < 150 {
			t.Errorf("%s: only %d", what, seen[what])
		}
	}
	if len(seen) != 10 || followed < 20000 {
		t.Errorf("%v; %d were followed", seen, followed)
	}
}

// P13.1, P13.2: codes as great as may be.
func TestGreatCodes(t *testing.T) {
	t.Parallel()
	m := made(14)
	for range 100 {
		c := m.code(api.MaxSlots, 50)
		for section := range c.Sections {
			of(t, c, section)
		}
	}
}

// P13.1: nothing is answered of a section that there isn't.
func TestNoSection(t *testing.T) {
	c := coded(nodes(), globals(), thread(slots(), section(loadG(ra, gA)), section(loadG(ra, gB))), thread(slots(), section(loadG(rb, gA))))
	in(t, "the first one", c, 0, known{ra: "g0"})
	in(t, "the one between", c, 1, known{ra: "g1"})
	in(t, "the last one", c, 2, known{rb: "g0"})
	for _, n := range row(-1, -2, 3, 4, 32, 1<<32, math.MaxInt, math.MinInt, math.MinInt+1<<32) {
		nothing(t, c, n)
	}
	plain := coded(nil, nil, thread(row(anInt), row(move(0, 0))))
	for _, n := range row(-1, 0, 1) {
		nothing(t, plain, n)
		nothing(t, api.Code{}, n)
	}
	// As many as there may be.
	var parts [][]api.Instr
	for range api.MaxSections {
		parts = append(parts, section(move(0, 1)))
	}
	c = coded(nil, nil, thread(times(2, once(anInt)), parts...))
	for n := range api.MaxSections {
		is(t, "one of many", c, n, "s1 s1")
	}
	nothing(t, c, api.MaxSections)
	is(t, "a thread of no slots", coded(nil, nil, thread(nil, section())), 0, "")
}

// nothing: that nothing is answered.
func nothing(t *testing.T, c api.Code, section int) {
	t.Helper()
	if list := path.Of(c, section); len(list) != 0 {
		t.Errorf("%+v, section %d: %s", c, section, listing(list))
	}
}

// P13.1: of a code that can't be nothing is answered, in whatever thread it is wrong; each of these differs from one that can be by one thing.
func TestBadCodes(t *testing.T) {
	good := func() api.Code {
		list := row(makeRec(rc, 0), loadG(ra, gA), loadF(rb, ra, 0, left), move(rd, ra), storeG(gB), storeF(ra, 0, right), makeInts(array), sizeOf(whole, array))
		return coded(nodes(), globals(), thread(slots(), section(list...)), thread(slots(), section(slices.Clone(list)...)))
	}
	in(t, "good", good(), 0, known{rc: "new", ra: "g0", rb: "g0.0", rd: "g0", array: "new", whole: "?"})
	instr := func(c *api.Code, op int) *api.Instr {
		for at := range c.Threads[1].Code {
			if x := &c.Threads[1].Code[at]; x.Op == op {
				return x
			}
		}
		return nil
	}
	for n, spoil := range []func(c *api.Code){
		func(c *api.Code) { c.Threads = append(c.Threads, api.Body{}) },
		func(c *api.Code) { c.Threads[1].Most = -1 },
		func(c *api.Code) { c.Threads[1].Most = api.MaxSteps + 1 },
		func(c *api.Code) { c.Threads[1].Slots[3].Kind = 0 },
		func(c *api.Code) { c.Threads[1].Slots[3].Rec = 9 },
		func(c *api.Code) { c.Threads[1].Slots = c.Threads[1].Slots[:9] },
		func(c *api.Code) { c.Threads[1].Slots = append(c.Threads[1].Slots, times(55, ints)...) },
		func(c *api.Code) { c.Threads[1].Code = c.Threads[1].Code[:9] },
		func(c *api.Code) { c.Threads[1].Code = nil },
		func(c *api.Code) { c.Threads = c.Threads[:1] },
		func(c *api.Code) { c.Sections = c.Sections[:1] },
		func(c *api.Code) { c.Sections[1].To-- },
		func(c *api.Code) { c.Sections[1].To++ },
		func(c *api.Code) { c.Sections[1].Thread = 0 },
		func(c *api.Code) { c.Sections[1].Thread = 2 },
		func(c *api.Code) { c.Sections[0], c.Sections[1] = c.Sections[1], c.Sections[0] },
		func(c *api.Code) { c.Sites = c.Sites[:3] },
		func(c *api.Code) { c.Sites[2].Rec = 1 },
		func(c *api.Code) { c.Sites[3].Rec = 0 },
		func(c *api.Code) { c.Globals = c.Globals[:1] },
		func(c *api.Code) { c.Globals[3].Once = true },
		func(c *api.Code) { c.Records = nil },
		func(c *api.Code) { c.Records = append(c.Records, nil, nil, nil, nil, nil) },
		func(c *api.Code) { instr(c, api.MakeRec).N = 0 },
		func(c *api.Code) { instr(c, api.MakeRec).Dst = array },
		func(c *api.Code) { instr(c, api.LoadG).N = 6 },
		func(c *api.Code) { instr(c, api.LoadG).N = -1 },
		func(c *api.Code) { instr(c, api.LoadG).Dst = 14 },
		func(c *api.Code) { instr(c, api.LoadG).Dst = -1 },
		func(c *api.Code) { instr(c, api.LoadF).N = 6 },
		func(c *api.Code) { instr(c, api.LoadF).N = -1 },
		func(c *api.Code) { instr(c, api.LoadF).Rec = 1 },
		func(c *api.Code) { instr(c, api.LoadF).Src = -1 },
		func(c *api.Code) { instr(c, api.LoadF).Dst = array },
		func(c *api.Code) { instr(c, api.DoCalc).Items = nil },
		func(c *api.Code) { instr(c, api.DoCalc).Items = row(slot(14)) },
		func(c *api.Code) { instr(c, api.DoCalc).Items = row(slot(-1)) },
		func(c *api.Code) { instr(c, api.DoCalc).Items[0].Bin = 1 },
		func(c *api.Code) { instr(c, api.StoreG).N = 6 },
		func(c *api.Code) { instr(c, api.StoreG).Dst = 1 },
		func(c *api.Code) { instr(c, api.StoreF).Src = array },
		func(c *api.Code) { instr(c, api.StoreF).Op = 18 },
	} {
		c := good()
		spoil(&c)
		if code.Good(c) {
			t.Errorf("spoilt by %d, it can be", n)
		}
		for section := range 3 {
			nothing(t, c, section)
		}
	}
	nothing(t, api.Code{Threads: row(api.Body{})}, 0)
	nothing(t, api.Code{Sections: row(api.Section{})}, 0)
	nothing(t, coded(nil, nil, thread(nil, section(loadG(0, 0)))), 0)
	nothing(t, coded(nil, nil, thread(nil, slices.Repeat(row(section()), api.MaxSections+1)...)), 0)
	nothing(t, coded(nil, nil, thread(nil, section(begin(), leave()))), 0)
	nothing(t, coded(nil, nil, thread(times(api.MaxSlots+1, anInt), section())), 0)
}

// Rule 1: any codes at all, of whatever numbers, and any sections: the call ends, and of those that can't be there is no answer.
func TestAnyCodes(t *testing.T) {
	t.Parallel()
	m := made(15)
	good := 0
	for i := range 30000 {
		var c api.Code
		if i%2 == 0 {
			scrawl(m, reflect.ValueOf(&c).Elem())
		} else {
			c = m.code(4, 8)
			m.spoil(reflect.ValueOf(&c).Elem())
		}
		for _, section := range row(m.number(), 0, len(c.Sections)-1, len(c.Sections)) {
			if !code.Good(c) || section < 0 || section >= len(c.Sections) {
				nothing(t, c, section)
				continue
			}
			good++
			of(t, c, section)
		}
	}
	if good < 1000 || good > 50000 {
		t.Errorf("%d can be", good)
	}
}

// Rules 3 and 4: a code that is handed in stays as it was, spare room included; two answers are the same, and share no memory, nor do two lists of one.
func TestLeftAlone(t *testing.T) {
	m := made(16)
	shared := 0
	for range 400 {
		c := m.code(30, 40)
		roomy(reflect.ValueOf(&c).Elem())
		was := numbersOf(reflect.ValueOf(c))
		section := m.Intn(len(c.Sections))
		first := path.Of(c, section)
		path.Of(m.code(9, 20), 0)
		second := path.Of(c, section)
		if !reflect.DeepEqual(numbersOf(reflect.ValueOf(c)), was) {
			t.Fatalf("%+v was changed", c)
		}
		text := listing(first)
		if listing(second) != text {
			t.Fatalf("%s\nand then:\n%s", text, listing(second))
		}
		var lists []reflect.Value
		for _, v := range []any{first, second, c} {
			gather(reflect.ValueOf(v), &lists)
		}
		slices.SortFunc(lists, func(a, b reflect.Value) int { return int(a.Pointer()) - int(b.Pointer()) })
		for n := range len(lists) - 1 {
			if lists[n+1].Pointer() < ends(lists[n]) {
				t.Fatalf("%+v: two lists share something", c)
			}
		}
		for n, v := range first {
			if slices.ContainsFunc(first[:n], func(w api.Value) bool { return len(v.Path.Fields) > 0 && path.Same(v.Path, w.Path) }) {
				shared++
			}
		}
		scribble(reflect.ValueOf(&first).Elem())
		scribble(reflect.ValueOf(&c).Elem())
		if listing(second) != text {
			t.Fatalf("what was written elsewhere is seen: %s\nnot:\n%s", listing(second), text)
		}
	}
	if shared < 60 {
		t.Errorf("only %d slots of which the same is known as of others", shared)
	}
}
