package pts_test

import (
	"fmt"
	"slices"
	"strings"
	"testing"

	"padlock/api"
)

// times: so many of a Local.
func times(n int, l api.Local) []api.Local { return slices.Repeat(row(l), n) }

// P11.1, P11.2: what comes against the order of the instructions, one instruction a round.
func TestAgainstOrder(t *testing.T) {
	c := coded(records(), kinds(), within(times(4, ref(0)), storeF(0, 0, 3, slot(1)), loadG(0, 3), loadF(2, 3, 0, 3), loadG(3, 3), storeG(3, slot(1)), makeRec(1, 0)))
	has(t, "the wrong way round", c, "t0.0=0 t0.1=0 t0.2=0 t0.3=0 g3=0 f0.3=0")
	c = coded(records(), kinds(), within(times(4, ref(0)), loadF(3, 2, 0, 3), loadF(2, 1, 0, 3), loadF(1, 0, 0, 3), makeRec(0, 0), storeF(0, 0, 3, slot(0))))
	has(t, "loads of loads", c, "t0.0=0 t0.1=0 t0.2=0 t0.3=0 f0.3=0")
}

// links: the instructions by which each slot of a thread, from first to last, gets what is in the one behind it, and the last one what is in the first one of the next thread, by a global; none of them in the order in which it comes.
func links(thread, threads, first, last int) []api.Instr {
	var list []api.Instr
	if thread > 0 {
		list = append(list, storeG(thread-1, slot(first)))
	}
	for n := first; n < last; n++ {
		list = append(list, move(n, n+1))
	}
	if thread < threads-1 {
		list = append(list, loadG(last, thread))
	}
	return list
}

// chain: threads of so many slots, all of them linked. What is made at the very end comes to the first slot by way of all.
func chain(threads, slots int) api.Code {
	var bodies []api.Body
	for thread := range threads {
		list := links(thread, threads, 0, slots-1)
		if thread == threads-1 {
			list = append(list, makeInts(slots-1))
		}
		bodies = append(bodies, within(times(slots, ints), list...))
	}
	return coded(nil, times(threads-1, ints), bodies...)
}

// P11.1, P11.2: through as many rounds as there are slots, and globals, in a row; where one step is broken off, nothing comes to anything ahead of it.
func TestManyRounds(t *testing.T) {
	for _, threads := range []int{1, 2, api.MaxThreads} {
		for _, slots := range []int{1, 2, 3, 17, api.MaxSlots} {
			s := solved(t, chain(threads, slots))
			all := append(slices.Concat(s.Slots...), s.Globals...)
			if len(all) != threads*slots+threads-1 || slices.ContainsFunc(all, func(set uint64) bool { return set != 1 }) {
				t.Errorf("%d threads of %d slots: %s", threads, slots, facts(s))
			}
			for thread := range threads {
				for _, n := range []int{0, slots / 2, slots - 2} {
					broken(t, threads, slots, thread, n)
				}
			}
		}
	}
}

// broken: that of a chain whose slot gets nobody just the slots behind that one have something.
func broken(t *testing.T, threads, slots, thread, n int) {
	t.Helper()
	c := chain(threads, slots)
	at := slices.IndexFunc(c.Threads[thread].Code, func(x api.Instr) bool { return x.Op == api.DoCalc && x.Dst == n })
	if at < 0 {
		return
	}
	c.Threads[thread].Code[at].Items = row(push(0))
	for in, list := range solved(t, c).Slots {
		for k, set := range list {
			want := uint64(0)
			if in > thread || in == thread && k > n {
				want = 1
			}
			if set != want {
				t.Errorf("%d threads of %d slots, broken at %d.%d: slot %d.%d has %s", threads, slots, thread, n, in, k, setText(set))
			}
		}
	}
}

// waves: things each of which means the next one, in the slots 0 to 31 of the thread 0, and links over all slots that are left, to whose end comes what the things at their beginning, and the thing 0, mean. So each thing comes to the end only when the one ahead of it has come all the way.
func waves() api.Code {
	const things, last = api.MaxSites, api.MaxSlots - 1
	slots := times(api.MaxSlots, ref(0))
	first := append(links(0, 4, things, last), storeG(3, sum(0, things)...))
	for n := range things {
		first = append(first, makeRec(n, 0))
		if n > 0 {
			first = append(first, storeF(n-1, 0, 0, slot(n)))
		}
	}
	end := append(links(3, 4, 0, last-1), loadF(last-1, last, 0, 0), loadG(last, 3))
	return coded(row(row(ref(0))), times(4, ref(0)), within(slots, first...),
		within(slots, links(1, 4, 0, last)...), within(slots, links(2, 4, 0, last)...), within(slots, end...))
}

// P11.1, P11.2: as many rounds as slots and sites together make of it: some thousands.
func TestWaves(t *testing.T) {
	const all = 1<<api.MaxSites - 1
	s := solved(t, waves())
	for thread, list := range s.Slots {
		for n, set := range list {
			want := uint64(all - 1)
			switch {
			case thread == 0 && n < api.MaxSites:
				want = 1 << n
			case thread == 3 && n == api.MaxSlots-1:
				want = all
			}
			if set != want {
				t.Errorf("slot %d.%d: %s", thread, n, setText(set))
			}
		}
	}
	for n, list := range s.Fields {
		if want := uint64(2) << n & all; list[0] != want {
			t.Errorf("field of %d: %s", n, setText(list[0]))
		}
	}
}

// P11.1, P11.2: a row of things, each of which the one ahead of it means, and slots that go along it, against the order.
func TestAlongFields(t *testing.T) {
	const n = 12
	slots := times(2*n, ref(0))
	var loads, stores, makes []api.Instr
	want := ""
	for k := range n {
		makes = append(makes, makeRec(k, 0))
		want += fmt.Sprintf("t0.%d=%d ", k, k)
		if k < n-1 {
			stores = append(stores, storeF(k, 0, 0, slot(k+1)))
			loads = append(loads, loadF(n+k+1, n+k, 0, 0))
		}
	}
	for k := range n {
		want += fmt.Sprintf("t0.%d=%d ", n+k, k)
	}
	for k := range n - 1 {
		want += fmt.Sprintf("f%d.0=%d ", k, k+1)
	}
	order := slices.Concat(makes, stores, row(move(n, 0)), loads)
	for range 2 {
		has(t, "along a row", coded(row(row(ref(0))), nil, within(slots, order...)), strings.TrimSpace(want))
		// The sites, and thus all facts, must keep their numbers.
		slices.Reverse(order)
		slices.Reverse(order[len(order)-n:])
	}
}

// P11.1, P11.2: rings of slots, of globals, of fields.
func TestRings(t *testing.T) {
	c := coded(records(), kinds(), within(times(3, ref(0)), move(0, 1), move(1, 2), move(2, 0)))
	has(t, "a ring to which nothing comes", c, "")
	c = coded(records(), kinds(), within(times(4, ref(0)), move(0, 1), move(1, 2), move(2, 0), move(1, 3), makeRec(3, 0), makeRec(2, 0)))
	has(t, "a ring of slots", c, "t0.0=0,1 t0.1=0,1 t0.2=0,1 t0.3=0")
	c = coded(records(), kinds(), within(row(ref(0), ref(1)), storeG(3, slot(0)), loadG(0, 3), storeG(4, slot(1)), loadG(1, 4), move(1, 0), makeRec(0, 0)))
	has(t, "rings by globals", c, "t0.0=0 t0.1=0 g3=0 g4=0")
	c = coded(records(), kinds(), within(row(ref(0), ref(0)), makeRec(0, 0), storeF(0, 0, 3, slot(0)), loadF(1, 0, 0, 3), loadF(1, 1, 0, 3), storeF(1, 0, 4, slot(1))))
	has(t, "a thing that means itself", c, "t0.0=0 t0.1=0 f0.3=0 f0.4=0")
	c = coded(records(), kinds(), within(times(3, ref(0)), makeRec(0, 0), makeRec(1, 0), storeF(0, 0, 3, slot(1)), storeF(1, 0, 3, slot(0)), move(2, 0), loadF(2, 2, 0, 3)))
	has(t, "two that mean one another", c, "t0.0=0 t0.1=1 t0.2=0,1 f0.3=1 f1.3=0")
}

// P11.1: sites of several threads, through globals and fields.
func TestThreads(t *testing.T) {
	c := coded(records(), kinds(),
		within(row(ref(0), ref(1), ints), loadG(0, 3), loadF(1, 0, 0, 4), loadF(2, 1, 1, 3)),
		within(row(ref(0), ref(1)), makeRec(0, 0), makeRec(1, 1), storeF(0, 0, 4, slot(1)), storeG(3, slot(0)), storeG(4, slot(1))),
		within(row(ints, ref(1), ref(0)), makeInts(0), loadG(1, 4), storeF(1, 1, 3, slot(0)), makeRec(2, 0), storeG(3, slot(2))),
		within(row(ref(0), ints, ref(0)), makeRec(0, 0), move(2, 0)))
	has(t, "four threads", c, "t0.0=0,3 t0.1=1 t0.2=2 t1.0=0 t1.1=1 t2.0=2 t2.1=1 t2.2=3 t3.0=4 t3.2=4 g3=0,3 g4=1 f0.4=1 f1.3=2")
	// Slots of one number, of two threads, know nothing of one another.
	c = coded(records(), kinds(), within(times(2, ints), makeInts(0), move(1, 0)), within(times(2, ints), move(1, 0)), within(times(2, ints), makeInts(1)))
	has(t, "slots alone", c, "t0.0=0 t0.1=0 t2.1=1")
}

// P11.1: how many rows there are, and how long they are: as many as threads and sites, those of arrays and of records without fields empty.
func TestShape(t *testing.T) {
	are(t, "nothing", api.Code{}, "globals")
	are(t, "a Halt alone", api.Code{Threads: row(api.Body{Code: row(api.Instr{Op: api.Halt})})}, "slots\nglobals")
	are(t, "slots, and a Halt alone", api.Code{Threads: row(api.Body{Slots: row(ints, anInt, aReal), Code: row(api.Instr{Op: api.Halt})})}, "slots - - -\nglobals")
	are(t, "records and globals alone", api.Code{Records: records(), Globals: kinds()}, "globals - - - - -")
	are(t, "threads of several lengths", coded(records(), row(ref(1)), within(nil), within(row(anInt, ref(3)), makeRec(1, 3)), within(nil), within(row(ref(2), ints), makeInts(1), makeRec(0, 2), storeF(0, 2, 0, slot(1)))), `
		slots
		slots - 0
		slots
		slots 2 1
		globals -
		fields
		fields
		fields 1 -`)
	are(t, "sets to which nothing comes", with(loadF(3, 3, 0, 3), storeG(4, slot(4))), `
		slots - - - - - 0 1 2 3 4
		globals - - - - -
		fields - - - - -
		fields - - - - -
		fields - -
		fields
		fields`)
}
