package pts_test

import (
	"reflect"
	"slices"
	"testing"

	"padlock/api"
	"padlock/code"
	"padlock/pts"
)

// P11.1, P11.2: codes by chance: that another telling says the same, that all that the instructions do holds, that each way of instructions stays within the sets, and that their order plays no part.
func TestManyCodes(t *testing.T) {
	t.Parallel()
	m := made(11)
	facts, walked, ops := 0, 0, map[int]int{}
	for i := range 6000 {
		c := m.code(3+i%12, 4+i%40)
		s := solved(t, c)
		holds(t, c, s)
		facts += bitCount(s)
		walked += bitCount(m.walk(t, c, s, 400))
		if got := pts.Solve(m.shuffled(c)); listing(got) != listing(s) {
			t.Fatalf("%+v: in another order:\n%s\nnot:\n%s", c, listing(got), listing(s))
		}
		for _, b := range c.Threads {
			for _, x := range b.Code {
				ops[x.Op]++
			}
		}
	}
	for op := api.DoCalc; op <= api.SizeOf; op++ {
		if ops[op] < 1000 {
			t.Errorf("Op %d: only %d", op, ops[op])
		}
	}
	if facts < 40000 || walked < facts/2 {
		t.Errorf("only %d facts, of which %d were walked", facts, walked)
	}
}

// P11.1, P11.2: codes as great as may be.
func TestGreatCodes(t *testing.T) {
	t.Parallel()
	m := made(12)
	for range 60 {
		c := m.code(api.MaxSlots, 250)
		holds(t, c, solved(t, c))
	}
}

// holds: that all that the chapter's table says holds of the sets.
func holds(t *testing.T, c api.Code, s api.Sets) {
	t.Helper()
	for thread, b := range c.Threads {
		mean := func(items []api.Item) (out uint64) {
			for _, item := range items {
				if item.Op == api.Slot {
					out |= s.Slots[thread][item.N]
				}
			}
			return out
		}
		comes := func(x api.Instr, more uint64, to uint64, of api.Local) {
			if (of.Kind == api.Ref || of.Kind == api.Ints) && more&^to != 0 {
				t.Fatalf("%+v: %+v brings %s to %s", c, x, setText(more), setText(to))
			}
		}
		for _, x := range b.Code {
			switch x.Op {
			case api.DoCalc:
				comes(x, mean(x.Items), s.Slots[thread][x.Dst], b.Slots[x.Dst])
			case api.LoadG:
				comes(x, s.Globals[x.N], s.Slots[thread][x.Dst], b.Slots[x.Dst])
			case api.StoreG:
				comes(x, mean(x.Items), s.Globals[x.N], c.Globals[x.N])
			case api.MakeRec, api.MakeInts:
				comes(x, 1<<x.N, s.Slots[thread][x.Dst], b.Slots[x.Dst])
			case api.LoadF, api.StoreF:
				for n, site := range c.Sites {
					if s.Slots[thread][x.Src]>>n&1 == 0 {
						continue
					}
					if x.Op == api.LoadF && x.N < len(s.Fields[n]) {
						comes(x, s.Fields[n][x.N], s.Slots[thread][x.Dst], b.Slots[x.Dst])
					}
					if x.Op == api.StoreF && site.Rec == x.Rec {
						comes(x, mean(x.Items), s.Fields[n][x.N], c.Records[x.Rec][x.N])
					}
				}
			}
		}
	}
}

// bitCount: how many sites all sets have together.
func bitCount(s api.Sets) int {
	n := 0
	for _, list := range append(append(row(s.Globals), s.Slots...), s.Fields...) {
		for _, set := range list {
			n += len(bitsOf(set))
		}
	}
	return n
}

// subset: whether all that is in sets is in others, of which the site gone, if it isn't below 0, was taken out.
func subset(few, all api.Sets, gone int) bool {
	renamed := func(set uint64) uint64 {
		if gone < 0 {
			return set
		}
		low := uint64(1)<<gone - 1
		return set&low | set&^low<<1
	}
	within := func(few, all []uint64) bool {
		for n, set := range few {
			if renamed(set)&^all[n] != 0 {
				return false
			}
		}
		return len(few) == len(all)
	}
	ok := within(few.Globals, all.Globals)
	for n, list := range few.Slots {
		ok = ok && within(list, all.Slots[n])
	}
	for n, list := range few.Fields {
		if gone >= 0 && n >= gone {
			n++
		}
		ok = ok && within(list, all.Fields[n])
	}
	return ok
}

// P11.2: an instruction less brings nothing more, and most bring something.
func TestOneLess(t *testing.T) {
	t.Parallel()
	m := made(13)
	asked, fewer := 0, 0
	for range 400 {
		c := m.code(8, 14)
		all := solved(t, c)
		for thread, b := range c.Threads {
			for at, x := range b.Code {
				if x.Op > api.SizeOf {
					continue
				}
				gone := -1
				if isMake(x) {
					gone = x.N
				}
				less := solved(t, without(c, thread, at))
				if !subset(less, all, gone) {
					t.Fatalf("%+v: without %+v:\n%s\nnot within:\n%s", c, x, listing(less), listing(all))
				}
				asked++
				if bitCount(less) < bitCount(all) {
					fewer++
				}
			}
		}
	}
	if asked < 2000 || fewer < 500 {
		t.Errorf("%d instructions less, %d of them with less in the sets", asked, fewer)
	}
}

// P11.1: of a code that can't be, empty Sets; each of these differs from one that can be by one thing.
func TestBadCodes(t *testing.T) {
	good := func() api.Code {
		return with(storeG(3, slot(refA)), storeF(refA, 0, 3, slot(refA)), loadF(3, refA, 0, 3), loadG(3, 3))
	}
	if s := solved(t, good()); bitCount(s) < 5 {
		t.Fatal(listing(s))
	}
	instr := func(c *api.Code, op int) *api.Instr {
		for at := range c.Threads[0].Code {
			if x := &c.Threads[0].Code[at]; x.Op == op {
				return x
			}
		}
		return nil
	}
	for n, spoil := range []func(c *api.Code){
		func(c *api.Code) { c.Threads = append(c.Threads, api.Body{}) },
		func(c *api.Code) { c.Threads[0].Most = -1 },
		func(c *api.Code) { c.Threads[0].Most = api.MaxSteps + 1 },
		func(c *api.Code) { c.Threads[0].Slots[3].Kind = 0 },
		func(c *api.Code) { c.Threads[0].Slots[3].Rec = 9 },
		func(c *api.Code) { c.Threads[0].Slots = c.Threads[0].Slots[:9] },
		func(c *api.Code) { c.Threads[0].Slots = append(c.Threads[0].Slots, times(55, ints)...) },
		func(c *api.Code) { c.Threads[0].Code = c.Threads[0].Code[:len(c.Threads[0].Code)-1] },
		func(c *api.Code) { c.Threads[0].Code = nil },
		func(c *api.Code) { c.Threads = nil },
		func(c *api.Code) { c.Sections = nil },
		func(c *api.Code) { c.Sections[0].To-- },
		func(c *api.Code) { c.Sites = c.Sites[:4] },
		func(c *api.Code) { c.Sites = append(c.Sites, c.Sites[0]) },
		func(c *api.Code) { c.Sites[0].Rec = 1 },
		func(c *api.Code) { c.Sites[0].Rec = 99 },
		func(c *api.Code) { c.Sites[3].Rec = 0 },
		func(c *api.Code) { c.Sites[3].Rec = -2 },
		func(c *api.Code) { c.Sites[0].Thread = 1 },
		func(c *api.Code) { c.Sites[0].At = -1 },
		func(c *api.Code) { c.Globals = c.Globals[:3] },
		func(c *api.Code) { c.Globals[3].Once = true },
		func(c *api.Code) { c.Records = nil },
		func(c *api.Code) { c.Records[0] = c.Records[0][:3] },
		func(c *api.Code) { c.Records = append(c.Records, nil, nil, nil) },
		func(c *api.Code) { instr(c, api.MakeRec).N = 1 },
		func(c *api.Code) { instr(c, api.MakeRec).N = -1 },
		func(c *api.Code) { instr(c, api.MakeRec).N = 64 },
		func(c *api.Code) { instr(c, api.MakeRec).Dst = array },
		func(c *api.Code) { instr(c, api.MakeRec).Dst = -1 },
		func(c *api.Code) { instr(c, api.LoadG).N = 5 },
		func(c *api.Code) { instr(c, api.LoadG).N = -1 },
		func(c *api.Code) { instr(c, api.StoreG).N = 5 },
		func(c *api.Code) { instr(c, api.StoreG).Items = nil },
		func(c *api.Code) { instr(c, api.StoreG).Items = row(slot(10)) },
		func(c *api.Code) { instr(c, api.StoreG).Items = row(slot(-1)) },
		func(c *api.Code) { instr(c, api.LoadF).N = 5 },
		func(c *api.Code) { instr(c, api.LoadF).Rec = 1 },
		func(c *api.Code) { instr(c, api.LoadF).Src = array },
		func(c *api.Code) { instr(c, api.StoreF).N = -1 },
		func(c *api.Code) { instr(c, api.StoreF).Src = 10 },
		func(c *api.Code) { instr(c, api.StoreF).Op = 18 },
	} {
		c := good()
		spoil(&c)
		if code.Good(c) {
			t.Errorf("spoilt by %d, it can be", n)
		}
		none(t, c)
	}
	none(t, api.Code{Threads: row(api.Body{})})
	none(t, api.Code{Threads: row(api.Body{Code: row(api.Instr{Op: api.Halt}), Slots: row(local(0))})})
	none(t, api.Code{Sites: row(api.Site{})})
	none(t, coded(nil, times(9, ints), within(row(ints), makeInts(0))))
	none(t, coded(nil, nil, within(nil), within(nil), within(nil), within(nil), within(nil)))
	none(t, coded(nil, nil, within(row(ints), slices.Repeat(row(makeInts(0)), 33)...)))
	if s := solved(t, coded(nil, nil, within(row(ints), slices.Repeat(row(makeInts(0)), 32)...))); s.Slots[0][0] != 1<<32-1 {
		t.Error(listing(s))
	}
}

// none: that of a code there are no sets.
func none(t *testing.T, c api.Code) {
	t.Helper()
	if s := pts.Solve(c); len(s.Slots)+len(s.Globals)+len(s.Fields) != 0 {
		t.Errorf("%+v: %s", c, listing(s))
	}
}

// Rule 1: any codes at all, of whatever numbers: the call ends, and those that can't be have no sets.
func TestAnyCodes(t *testing.T) {
	t.Parallel()
	m := made(14)
	good := 0
	for i := range 30000 {
		var c api.Code
		if i%2 == 0 {
			scrawl(m, reflect.ValueOf(&c).Elem())
		} else {
			c = m.code(4, 8)
			m.spoil(reflect.ValueOf(&c).Elem())
		}
		if !code.Good(c) {
			none(t, c)
			continue
		}
		good++
		holds(t, c, solved(t, c))
	}
	if good < 1000 || good > 14000 {
		t.Errorf("%d can be", good)
	}
}

// Rules 3 and 4: a code that is handed in stays as it was, spare room included; two answers are the same, and share no memory, nor do two lists of one.
func TestLeftAlone(t *testing.T) {
	m := made(15)
	for range 300 {
		c := m.code(6, 12)
		roomy(reflect.ValueOf(&c).Elem())
		was := whole(reflect.ValueOf(c))
		first := pts.Solve(c)
		pts.Solve(m.code(9, 20))
		second := pts.Solve(c)
		if !reflect.DeepEqual(whole(reflect.ValueOf(c)), was) {
			t.Fatalf("%+v was changed", c)
		}
		text := listing(first)
		if listing(second) != text {
			t.Fatalf("%s\nand then:\n%s", text, listing(second))
		}
		var lists []reflect.Value
		for _, v := range []any{first, second, c} {
			gather(reflect.ValueOf(v), &lists)
		}
		for i, a := range lists {
			for _, b := range lists[i+1:] {
				if a.Pointer() < ends(b) && b.Pointer() < ends(a) {
					t.Fatalf("%+v: two lists share something", c)
				}
			}
		}
		scribble(reflect.ValueOf(&first).Elem())
		scribble(reflect.ValueOf(&c).Elem())
		if listing(second) != text {
			t.Fatalf("what was written elsewhere is seen: %s\nnot:\n%s", listing(second), text)
		}
	}
}
