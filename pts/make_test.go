package pts_test

import (
	"math/rand"
	"slices"

	"padlock/api"
)

// maker makes codes that can be, by chance; those that things go through in many ways.
type maker struct{ *rand.Rand }

func made(seed int64) maker { return maker{rand.New(rand.NewSource(seed))} }

func pick[T any](m maker, list []T) T { return list[m.Intn(len(list))] }

// local: one of a Kind, things more often than numbers.
func (m maker) local(records int) api.Local {
	switch n := m.Intn(8); {
	case n == 0:
		return anInt
	case n == 1:
		return aReal
	case n < 4 || records == 0:
		return ints
	}
	return ref(m.Intn(records))
}

func (m maker) locals(length, records int) []api.Local {
	list := make([]api.Local, length)
	for n := range list {
		list[n] = m.local(records)
	}
	return list
}

// code: one of at most so many slots, and instructions, a thread.
func (m maker) code(slots, instrs int) api.Code {
	count := m.Intn(4)
	records := make([][]api.Local, count)
	for n := range records {
		records[n] = m.locals(m.Intn(5), count)
	}
	globals := m.locals(m.Intn(5), count)
	var threads []api.Body
	makes := 0
	for range 1 + m.Intn(api.MaxThreads) {
		own := m.locals(m.Intn(slots+1), count)
		var list []api.Instr
		for range m.Intn(instrs + 1) {
			if x, ok := m.instr(records, globals, own, makes < api.MaxSites); ok {
				list = append(list, x)
				if isMake(x) {
					makes++
				}
			}
		}
		b := within(own, list...)
		for range m.Intn(3) {
			if len(own) > 0 {
				b.Code = slices.Insert(b.Code, pick(m, []int{0, len(b.Code) - 1}), m.calc(own))
			}
		}
		threads = append(threads, b)
	}
	return m.renumbered(coded(records, globals, threads...))
}

func isMake(x api.Instr) bool { return x.Op == api.MakeRec || x.Op == api.MakeInts }

func (m maker) calc(slots []api.Local) api.Instr {
	return calc(m.Intn(len(slots)), m.items(len(slots))...)
}

// items: an expression that names no slot, one, or a few.
func (m maker) items(slots int) []api.Item {
	switch n := m.Intn(6); {
	case slots == 0 || n == 0:
		return row(push(uint64(m.Intn(3))))
	case n < 4:
		return row(slot(m.Intn(slots)))
	case n == 4:
		return row(slot(m.Intn(slots)), slot(m.Intn(slots)), bin(api.BinRef, 5))
	}
	return sum(m.Intn(slots), m.Intn(slots), m.Intn(slots))
}

// instr: an instruction, if all that its Op asks for is there.
func (m maker) instr(records [][]api.Local, globals, slots []api.Local, room bool) (api.Instr, bool) {
	x := api.Instr{Op: m.Intn(api.SizeOf) + 1}
	dst, src := api.Local{}, api.Local{}
	ok := len(slots) > 0
	switch x.Op {
	case api.DoCalc:
		if ok {
			return m.calc(slots), true
		}
	case api.LoadG, api.StoreG:
		if ok = ok && len(globals) > 0; ok {
			x.N = m.Intn(len(globals))
			if x.Op == api.LoadG {
				dst = globals[x.N]
			}
		}
	case api.LoadF, api.StoreF, api.MakeRec:
		if ok = ok && len(records) > 0; ok {
			x.Rec = m.Intn(len(records))
			dst, src, x.N, ok = m.ofRecord(x, records[x.Rec])
		}
	case api.LoadE, api.SizeOf:
		dst, src = anInt, ints
	case api.StoreE:
		src = ints
	case api.MakeInts:
		dst = ints
	}
	ok = ok && (room || !isMake(x)) && m.found(slots, dst, &x.Dst) && m.found(slots, src, &x.Src)
	return m.filled(x, len(slots)), ok
}

// ofRecord: what Dst and Src must be of, and the field, of an instruction on records.
func (m maker) ofRecord(x api.Instr, fields []api.Local) (dst, src api.Local, n int, ok bool) {
	if x.Op == api.MakeRec {
		return ref(x.Rec), src, 0, true
	}
	if len(fields) == 0 {
		return dst, src, 0, false
	}
	if n = m.Intn(len(fields)); x.Op == api.LoadF {
		dst = fields[n]
	}
	return dst, ref(x.Rec), n, true
}

// found gives a number a slot of such a Local, if one is asked for; false: there is none.
func (m maker) found(slots []api.Local, of api.Local, n *int) bool {
	if of.Kind == 0 {
		return true
	}
	var list []int
	for at, l := range slots {
		if l == of {
			list = append(list, at)
		}
	}
	if len(list) > 0 {
		*n = pick(m, list)
	}
	return len(list) > 0
}

func (m maker) filled(x api.Instr, slots int) api.Instr {
	switch x.Op {
	case api.StoreG, api.StoreF, api.MakeInts:
		x.Items = m.items(slots)
	case api.LoadE:
		x.Index = m.items(slots)
	case api.StoreE:
		x.Index, x.Items = m.items(slots), m.items(slots)
	}
	return x
}

// renumbered: a code with its sites in another order.
func (m maker) renumbered(c api.Code) api.Code {
	was := slices.Clone(c.Sites)
	for old, n := range m.Perm(len(was)) {
		c.Sites[n] = was[old]
		c.Threads[was[old].Thread].Code[was[old].At].N = n
	}
	return c
}

// shuffled: a code with what stands in each section in another order; sites and sections keep their numbers.
func (m maker) shuffled(c api.Code) api.Code {
	out := copied(c)
	for _, s := range out.Sections {
		list := out.Threads[s.Thread].Code[s.From+1 : s.To]
		m.Shuffle(len(list), func(i, j int) { list[i], list[j] = list[j], list[i] })
	}
	for thread, b := range out.Threads {
		for at, x := range b.Code {
			if isMake(x) {
				out.Sites[x.N].At = at
				out.Sites[x.N].Thread = thread
			}
		}
	}
	return out
}

// without: a code with something that does nothing in the place of an instruction; if that is a make, its site is gone, and later ones are one number less.
func without(c api.Code, thread, at int) api.Code {
	out := copied(c)
	gone := out.Threads[thread].Code[at]
	out.Threads[thread].Code[at] = idle()
	if !isMake(gone) {
		return out
	}
	out.Sites = slices.Delete(out.Sites, gone.N, gone.N+1)
	for n, s := range out.Sites {
		out.Threads[s.Thread].Code[s.At].N = n
	}
	return out
}
