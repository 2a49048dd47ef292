package code_test

import (
	"fmt"
	"math"
	"slices"
	"testing"

	"padlock/api"
	"padlock/code"
)

// P9.1: a section has a thread, a Begin and a Leave of it behind that, whose N is its place.
func TestSections(t *testing.T) {
	of := func(n int, change func(s *api.Section)) api.Code {
		return changed(func(c *api.Code) { change(&c.Sections[n]) })
	}
	for n, was := range full().Sections {
		length := len(full().Threads[was.Thread].Code)
		for _, thread := range append(beside(3), 0, 1, 2) {
			is(t, thread == was.Thread, fmt.Sprintf("section %d, thread %d", n, thread), of(n, func(s *api.Section) { s.Thread = thread }))
		}
		places := beside(length)
		for at := range length {
			places = append(places, at)
		}
		for _, at := range places {
			is(t, at == was.From, fmt.Sprintf("section %d from %d", n, at), of(n, func(s *api.Section) { s.From = at }))
			is(t, at == was.To, fmt.Sprintf("section %d to %d", n, at), of(n, func(s *api.Section) { s.To = at }))
		}
		cannot(t, "from and to the other way", of(n, func(s *api.Section) { s.From, s.To = s.To, s.From }))
		cannot(t, "from to itself", of(n, func(s *api.Section) { s.To = s.From }))
		cannot(t, "to to itself", of(n, func(s *api.Section) { s.From = s.To }))
	}
	cannot(t, "a Leave ahead of its Begin", api.Code{
		Threads:  []api.Body{{Code: []api.Instr{{Op: api.Leave}, {Op: api.Begin}, {Op: api.Halt}}}},
		Sections: []api.Section{{From: 1, To: 0}},
	})
	can(t, "a section of nothing", pair(api.Instr{Op: api.Begin}, api.Instr{Op: api.Leave}))
	for _, ends := range [][2]int{{api.Leave, api.Begin}, {api.Begin, api.Begin}, {api.Leave, api.Leave}} {
		cannot(t, fmt.Sprint("ends ", ends), pair(api.Instr{Op: ends[0]}, api.Instr{Op: ends[1]}))
	}
	print := api.Instr{Op: api.PutInt, Items: push(0)}
	cannot(t, "no Begin", pair(print, api.Instr{Op: api.Leave}))
	cannot(t, "no Leave", pair(api.Instr{Op: api.Begin}, print))
	cannot(t, "no threads", api.Code{Sections: []api.Section{{From: 0, To: 1}}})
	cannot(t, "swapped with another one", changed(func(c *api.Code) { c.Sections[0], c.Sections[2] = c.Sections[2], c.Sections[0] }))
}

// pair: a section from one instruction to the next one.
func pair(from, to api.Instr) api.Code {
	c := alone(from, to)
	c.Sections = []api.Section{{From: 0, To: 1}}
	return c
}

// P9.1: the N of a Begin and of a Leave is the place of the section whose end it is.
func TestEnds(t *testing.T) {
	for _, at := range []int{atBegin0, atLeave0, atBegin2, atLeave2} {
		was := big()[at].N
		for _, n := range append(beside(3), 0, 1, 2) {
			is(t, n == was, fmt.Sprintf("N %d at %d", n, at), instr(at, func(x *api.Instr) { x.N = n }))
		}
	}
	for _, op := range []int{api.Begin, api.Leave} {
		for _, at := range []int{atCalc, atLoadF, atPutInt0, atPutInt} {
			for n := range 4 {
				cannot(t, fmt.Sprintf("Op %d of %d at %d, of which no section tells", op, n, at), instr(at, func(x *api.Instr) { *x = api.Instr{Op: op, N: n} }))
			}
		}
		cannot(t, "without sections", alone(api.Instr{Op: op}))
	}
	for n := range 3 {
		cannot(t, fmt.Sprint("section ", n, " isn't told"), changed(func(c *api.Code) { c.Sections = slices.Delete(c.Sections, n, n+1) }))
	}
	cannot(t, "two Begins of one section", alikeEnds(api.Begin, 1))
	cannot(t, "two Leaves of one section", alikeEnds(api.Leave, 2))
	can(t, "a print there", alikeEnds(0, 2))
}

// alikeEnds: a section of five places, with another instruction at one of them, a print for the Op 0.
func alikeEnds(op, at int) api.Code {
	print := api.Instr{Op: api.PutInt, Items: push(0)}
	c := alone(api.Instr{Op: api.Begin}, print, print, print, api.Instr{Op: api.Leave})
	if op != 0 {
		c.Threads[0].Code[at] = api.Instr{Op: op}
	}
	c.Sections = []api.Section{{From: 0, To: 4}}
	return c
}

// P9.1: no two sections of one thread have a place in common, an end neither; those of two threads may.
func TestMeet(t *testing.T) {
	const length = 8
	ends := []api.Section{}
	for from := range length {
		for to := from + 1; to < length; to++ {
			ends = append(ends, api.Section{From: from, To: to})
		}
	}
	for _, a := range ends {
		for _, b := range ends {
			apart := a.To < b.From || b.To < a.From
			is(t, apart, fmt.Sprint("one thread, ", a, b), ended(a, b))
			b.Thread = 1
			can(t, fmt.Sprint("two threads, ", a, b), ended(a, b))
		}
	}
	cannot(t, "the same section twice", changed(func(c *api.Code) { c.Sections = append(c.Sections, c.Sections[0]) }))
}

// ended: two threads of prints, with a Begin and a Leave at the ends of each of those sections.
func ended(sections ...api.Section) api.Code {
	c := api.Code{Threads: []api.Body{{Code: halts(9)}, {Code: halts(9)}}, Sections: sections}
	for n, s := range sections {
		c.Threads[s.Thread].Code[s.From] = api.Instr{Op: api.Begin, N: n}
		c.Threads[s.Thread].Code[s.To] = api.Instr{Op: api.Leave, N: n}
	}
	return c
}

// P9.1: a site has a thread and a place there of a make, whose N is its place, and the Rec of it.
func TestSites(t *testing.T) {
	of := func(n int, change func(s *api.Site)) api.Code {
		return changed(func(c *api.Code) { change(&c.Sites[n]) })
	}
	for n, was := range full().Sites {
		for _, thread := range append(beside(3), 0, 1, 2) {
			is(t, thread == was.Thread, fmt.Sprintf("site %d, thread %d", n, thread), of(n, func(s *api.Site) { s.Thread = thread }))
		}
		length := len(full().Threads[was.Thread].Code)
		places := beside(length)
		for at := range length {
			places = append(places, at)
		}
		for _, at := range places {
			is(t, at == was.At, fmt.Sprintf("site %d at %d", n, at), of(n, func(s *api.Site) { s.At = at }))
		}
		for _, rec := range append(beside(3), 0, 1, 2) {
			is(t, rec == was.Rec, fmt.Sprintf("site %d, Rec %d", n, rec), of(n, func(s *api.Site) { s.Rec = rec }))
		}
	}
	for _, at := range []int{atMakeRec, atMakeInts} {
		was := big()[at].N
		for _, n := range append(beside(3), 0, 1, 2) {
			is(t, n == was, fmt.Sprintf("N %d at %d", n, at), instr(at, func(x *api.Instr) { x.N = n }))
		}
	}
	for n := range 3 {
		cannot(t, fmt.Sprint("site ", n, " isn't told"), changed(func(c *api.Code) { c.Sites = slices.Delete(c.Sites, n, n+1) }))
		cannot(t, fmt.Sprint("site ", n, " is told twice"), changed(func(c *api.Code) { c.Sites = append(c.Sites, c.Sites[n]) }))
	}
	cannot(t, "no threads", api.Code{Sites: []api.Site{{}}})
	cannot(t, "of a print", changed(func(c *api.Code) { c.Sites = append(c.Sites, api.Site{Thread: 1, At: atPutInt}) }))
	// An instruction that isn't a make, with the N that the site would ask for.
	for _, x := range []api.Instr{{Op: api.StoreG, N: 1, Items: push(0)}, {Op: api.LoadG, Dst: aReal, N: 1}} {
		cannot(t, "of another instruction", instr(atMakeRec, func(was *api.Instr) { *was = x }))
		can(t, "that instruction without the site", makeGone(x))
	}
}

// makeGone: full with another instruction in the place of its MakeRec, and without that one's site, so that the last site's number is another one.
func makeGone(x api.Instr) api.Code {
	return changed(func(c *api.Code) {
		c.Threads[1].Code[atMakeRec] = x
		c.Sites = slices.Delete(c.Sites, 1, 2)
		c.Threads[0].Code[2].N = 1
	})
}

// P9.1: a MakeRec's Rec is its site's, its Dst a Ref of it; a MakeInts' site has none.
func TestMakes(t *testing.T) {
	for rec := range 3 {
		for site := -1; site < 3; site++ {
			for dst := range 3 {
				c := changed(func(c *api.Code) {
					c.Threads[1].Slots = append(c.Threads[1].Slots, ref(dst))
					c.Threads[1].Code[atMakeRec] = api.Instr{Op: api.MakeRec, Dst: len(c.Threads[1].Slots) - 1, Rec: rec, N: 1}
					c.Sites[1].Rec = site
				})
				is(t, rec == site && rec == dst, fmt.Sprintf("Rec %d, site's %d, slot's %d", rec, site, dst), c)
			}
		}
	}
	for _, rec := range beside(3) {
		cannot(t, fmt.Sprint("Rec ", rec), changed(func(c *api.Code) {
			c.Sites[1].Rec, c.Threads[1].Code[atMakeRec].Rec = rec, rec
		}))
		cannot(t, fmt.Sprint("Rec, and slot's, ", rec), changed(func(c *api.Code) {
			c.Sites[1].Rec, c.Threads[1].Code[atMakeRec].Rec = rec, rec
			c.Threads[1].Slots[refB].Rec = rec
		}))
		cannot(t, fmt.Sprint("MakeInts with Rec ", rec), changed(func(c *api.Code) {
			c.Sites[0].Rec, c.Threads[1].Code[atMakeInts].Rec = rec, rec
		}))
	}
	cannot(t, "a MakeRec of an array's site", changed(func(c *api.Code) {
		c.Threads[1].Code[atMakeRec] = api.Instr{Op: api.MakeRec, Dst: ints, Rec: 0, N: 1}
		c.Sites[1].Rec = -1
	}))
	can(t, "a MakeInts in the place of a MakeRec", changed(func(c *api.Code) {
		c.Threads[1].Code[atMakeRec] = api.Instr{Op: api.MakeInts, Dst: ints, N: 1, Items: push(0)}
		c.Sites[1].Rec = -1
	}))
}

// P9.1: Inside, at each place of a code that can be.
func TestInside(t *testing.T) {
	for at, in := range stands {
		want := -1
		if in != '.' {
			want = int(in - '0')
		}
		if got := code.Inside(full(), 1, at); got != want {
			t.Errorf("thread 1, place %d: %d", at, got)
		}
	}
	for at, want := range []int{-1, -1, 1, 1, -1} {
		if got := code.Inside(full(), 0, at); got != want {
			t.Errorf("thread 0, place %d: %d", at, got)
		}
	}
	for _, at := range beside(len(stands)) {
		for thread := range 3 {
			if got := code.Inside(full(), thread, at); got != -1 {
				t.Errorf("thread %d, place %d: %d", thread, at, got)
			}
		}
	}
	for _, thread := range beside(3) {
		for at := range stands {
			if got := code.Inside(full(), thread, at); got != -1 {
				t.Errorf("thread %d, place %d: %d", thread, at, got)
			}
		}
	}
}

// P9.1: Inside asks the sections alone, whatever code they are of.
func TestInsideAny(t *testing.T) {
	c := api.Code{Sections: []api.Section{
		{Thread: 7, From: 5, To: 5},
		{Thread: 7, From: 9, To: 2},
		{Thread: 7, From: 2, To: 6},
		{Thread: 7, From: -3, To: 4},
		{Thread: -1, From: -9, To: -5},
		{Thread: 7, From: 4, To: 20},
		{Thread: 8, From: math.MinInt, To: math.MaxInt},
	}}
	for _, x := range []struct{ thread, at, want int }{
		{7, -3, -1}, {7, -2, 3}, {7, 0, 3}, {7, 2, 3}, {7, 3, 2}, {7, 4, 2}, {7, 5, 2}, {7, 6, 2}, {7, 7, 5}, {7, 9, 5}, {7, 20, 5}, {7, 21, -1},
		{-1, -9, -1}, {-1, -8, 4}, {-1, -5, 4}, {-1, -4, -1}, {0, 3, -1}, {6, 3, -1},
		{8, math.MinInt, -1}, {8, math.MinInt + 1, 6}, {8, 0, 6}, {8, math.MaxInt, 6}, {9, 0, -1}, {math.MaxInt, 0, -1},
	} {
		if got := code.Inside(c, x.thread, x.at); got != x.want {
			t.Errorf("thread %d, place %d: %d; want %d", x.thread, x.at, got, x.want)
		}
	}
	for at := -2; at < 3; at++ {
		if got := code.Inside(api.Code{}, 0, at); got != -1 {
			t.Errorf("of nothing, place %d: %d", at, got)
		}
	}
}

// P9.1: Writes answers the Dst of what has one, whatever else the instruction has.
func TestWrites(t *testing.T) {
	writing := []int{api.DoCalc, api.LoadG, api.LoadF, api.LoadE, api.MakeRec, api.MakeInts, api.SizeOf}
	for _, op := range []int{-1, 0, 1, 2, 3, 4, 5, 6, 7, 8, 9, 10, 11, 12, 13, 14, 15, 16, 17, 18, 100, math.MinInt, math.MaxInt} {
		for _, dst := range []int{0, 1, 63, 64, -1, -7, math.MinInt, math.MaxInt} {
			want := -1
			if slices.Contains(writing, op) {
				want = dst
			}
			x := api.Instr{Op: op, Dst: dst, Src: 5, Rec: 6, N: 8, To: 9, Items: slot(3), Index: slot(4)}
			if got := code.Writes(x); got != want {
				t.Errorf("Op %d, Dst %d: %d", op, dst, got)
			}
			if got := code.Writes(api.Instr{Op: op, Dst: dst}); got != want {
				t.Errorf("bare, Op %d, Dst %d: %d", op, dst, got)
			}
		}
	}
}
