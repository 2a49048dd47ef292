package code_test

import (
	"fmt"
	"math"
	"testing"

	"padlock/api"
)

// edge: that a code of n parts can be up to a limit, and not above it.
func edge(t *testing.T, what string, most int, of func(n int) api.Code) {
	t.Helper()
	for _, n := range []int{0, 1, most - 1, most} {
		can(t, fmt.Sprint(what, " ", n), of(n))
	}
	for _, n := range []int{most + 1, most + 2, 2*most + 1} {
		cannot(t, fmt.Sprint(what, " ", n), of(n))
	}
}

// halts: n instructions, the last one a Halt.
func halts(n int) []api.Instr {
	return append(times(n-1, api.Instr{Op: api.PutInt, Items: push(0)}), api.Instr{Op: api.Halt})
}

// pairs: a thread of n sections, the first one of a place on.
func pairs(thread, first, n int) ([]api.Instr, []api.Section) {
	var list []api.Instr
	var sections []api.Section
	for i := range n {
		list = append(list, api.Instr{Op: api.Begin, N: first + i}, api.Instr{Op: api.Leave, N: first + i})
		sections = append(sections, api.Section{Thread: thread, From: 2 * i, To: 2*i + 1})
	}
	return append(list, api.Instr{Op: api.Halt}), sections
}

// makes: a thread of a section with n arrays made.
func makes(n int) api.Code {
	list := []api.Instr{{Op: api.Begin}}
	var sites []api.Site
	for i := range n {
		sites = append(sites, api.Site{At: len(list), Rec: -1})
		list = append(list, api.Instr{Op: api.MakeInts, N: i, Items: push(1)})
	}
	list = append(list, api.Instr{Op: api.Leave}, api.Instr{Op: api.Halt})
	return api.Code{
		Threads:  []api.Body{{Slots: []api.Local{local(api.Ints)}, Code: list}},
		Sites:    sites,
		Sections: []api.Section{{To: n + 1}},
	}
}

// P9.1: each limit of a code, at it and above it.
func TestLimits(t *testing.T) {
	edge(t, "records", 6, func(n int) api.Code { return api.Code{Records: make([][]api.Local, n)} })
	for at := range 6 {
		edge(t, fmt.Sprint("fields of record ", at), 6, func(n int) api.Code {
			c := api.Code{Records: make([][]api.Local, 6)}
			c.Records[at] = times(n, local(api.Real))
			return c
		})
	}
	can(t, "all records full", api.Code{Records: times(6, times(6, ref(5)))})
	edge(t, "globals", 8, func(n int) api.Code { return api.Code{Globals: times(n, local(api.Ints))} })
	edge(t, "threads", 4, func(n int) api.Code { return api.Code{Threads: times(n, api.Body{Code: halts(1)})} })
	edge(t, "sites", 32, makes)
	edge(t, "sections", 32, func(n int) api.Code {
		list, sections := pairs(0, 0, n)
		return api.Code{Threads: []api.Body{{Code: list}}, Sections: sections}
	})
	edge(t, "sections of two threads", 32, func(n int) api.Code {
		list, sections := pairs(0, 0, n/2)
		other, more := pairs(1, n/2, n-n/2)
		return api.Code{Threads: []api.Body{{Code: list}, {Code: other}}, Sections: append(sections, more...)}
	})
}

// P9.1: each limit of a thread, in each of four, at it and above it.
func TestThreadLimits(t *testing.T) {
	for at := range 4 {
		of := func(b api.Body) api.Code {
			c := api.Code{Threads: times(4, api.Body{Code: halts(1)})}
			c.Threads[at] = b
			return c
		}
		edge(t, fmt.Sprint("slots of thread ", at), 64, func(n int) api.Code {
			return of(api.Body{Slots: times(n, local(api.Int)), Code: halts(1)})
		})
		edge(t, fmt.Sprint("instructions of thread ", at), 256, func(n int) api.Code {
			return of(api.Body{Code: halts(max(n, 1))})
		})
		cannot(t, "no instructions", of(api.Body{}))
		for _, most := range []int{0, 1, 2, 255, 4095, 4096} {
			can(t, fmt.Sprint("Most ", most), of(api.Body{Code: halts(1), Most: most}))
		}
		for _, most := range []int{-1, -2, -4096, math.MinInt, 4097, 8192, math.MaxInt, 1 << 32} {
			cannot(t, fmt.Sprint("Most ", most), of(api.Body{Code: halts(1), Most: most}))
		}
	}
	last := append([]api.Instr{{Op: api.Jump, To: 255}}, halts(255)...)
	can(t, "a jump to the last of all places", api.Code{Threads: []api.Body{{Code: last}}})
	wide := api.Body{Slots: times(64, local(api.Int)), Code: []api.Instr{{Op: api.DoCalc, Dst: 63, Items: slot(63)}, {Op: api.Halt}}}
	can(t, "the last of all slots", api.Code{Threads: []api.Body{wide}})
	cannot(t, "many parts of all", api.Code{
		Records: make([][]api.Local, 5000), Globals: make([]api.Local, 5000), Threads: make([]api.Body, 5000),
		Sites: make([]api.Site, 5000), Sections: make([]api.Section, 5000),
	})
}

// P9.1: locals of each Kind, as a field, as a global and as a slot, with as many records as there may be.
func TestLocals(t *testing.T) {
	for records := range 7 {
		for _, kind := range []int{1, 2, 3, 4, 0, -1, 5, 6, 255, math.MinInt, math.MaxInt, 1<<32 + 1} {
			for _, rec := range append(beside(records), 0, 1, 2, 3, 4, 5) {
				l := api.Local{Kind: kind, Rec: rec}
				want := kind >= 1 && kind <= 3 && rec == 0 || kind == 4 && rec >= 0 && rec < records
				localIs(t, want, records, l)
			}
		}
	}
}

// localIs: that a local can be, just if it is wanted, in each place where one may stand; Once it may be as a slot alone.
func localIs(t *testing.T, want bool, records int, l api.Local) {
	t.Helper()
	ahead := []api.Local{local(api.Int)}
	of := func(change func(c *api.Code, l api.Local), l api.Local) api.Code {
		c := api.Code{Records: make([][]api.Local, records), Threads: []api.Body{{Code: halts(1)}, {Code: halts(1)}}}
		change(&c, l)
		return c
	}
	global := func(c *api.Code, l api.Local) { c.Globals = append(ahead, l) }
	is(t, want, fmt.Sprint(records, " records, global ", l), of(global, l))
	cannot(t, fmt.Sprint(records, " records, global once ", l), of(global, once(l)))
	for thread := range 2 {
		slot := func(c *api.Code, l api.Local) { c.Threads[thread].Slots = append(ahead, l) }
		is(t, want, fmt.Sprint(records, " records, slot ", l), of(slot, l))
		is(t, want, fmt.Sprint(records, " records, slot once ", l), of(slot, once(l)))
	}
	for rec := range records {
		field := func(c *api.Code, l api.Local) { c.Records[rec] = append(ahead, l) }
		is(t, want, fmt.Sprint(records, " records, field ", l), of(field, l))
		cannot(t, fmt.Sprint(records, " records, field once ", l), of(field, once(l)))
	}
}
