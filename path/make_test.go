package path_test

import (
	"math/rand"

	"padlock/api"
)

// maker makes codes that can be, by chance; those in which much is known.
type maker struct {
	*rand.Rand
	// mixed: moves go from slots of any Kind.
	mixed bool
}

func made(seed int64) *maker { return &maker{Rand: rand.New(rand.NewSource(seed))} }

func pick[T any](m *maker, list []T) T { return list[m.Intn(len(list))] }

// local: mostly a Ref.
func (m *maker) local(records int) api.Local {
	switch n := m.Intn(12); {
	case n == 0:
		return anInt
	case n == 1:
		return aReal
	case n == 2 || records == 0:
		return ints
	}
	return ref(m.Intn(records))
}

func (m *maker) locals(length, records int) []api.Local {
	list := make([]api.Local, length)
	for n := range list {
		list[n] = m.local(records)
	}
	return list
}

// shape is what threads have in common.
type shape struct {
	records [][]api.Local
	globals []api.Local
	slots   []api.Local
	makes   *int
}

// code: one of at most so many slots, and instructions, a section.
func (m *maker) code(slots, instrs int) api.Code {
	m.mixed = m.Intn(4) == 0
	count := m.Intn(4)
	s := shape{globals: m.locals(m.Intn(5), count), makes: new(int)}
	for range count {
		s.records = append(s.records, m.locals(2+m.Intn(4), count))
	}
	var threads []api.Body
	for range 1 + m.Intn(api.MaxThreads) {
		s.slots = m.locals(1+m.Intn(slots), count)
		for n := range s.slots {
			s.slots[n].Once = m.Intn(12) > 0
		}
		threads = append(threads, m.thread(s, instrs))
	}
	c := coded(s.records, s.globals, threads...)
	return renumbered(c, m.Perm(len(c.Sections))...)
}

func (m *maker) thread(s shape, instrs int) api.Body {
	var parts [][]api.Instr
	for range 1 + m.Intn(4) {
		if m.Intn(3) == 0 {
			parts = append(parts, row(m.calc(s, m.Intn(len(s.slots)))))
		}
		parts = append(parts, section(m.inside(s, instrs)...))
	}
	return thread(s.slots, parts...)
}

// inside: what a section does: gives most slots a value once, in any order, and stores a little.
func (m *maker) inside(s shape, most int) []api.Instr {
	var list []api.Instr
	for _, dst := range m.Perm(len(s.slots)) {
		if m.Intn(5) == 0 {
			continue
		}
		for ok := true; ok && len(list) < most; ok = m.Intn(20) == 0 {
			if x, ok := m.gives(s, dst); ok {
				list = append(list, x)
			}
		}
	}
	for range m.Intn(3) {
		if x, ok := m.store(s); ok {
			list = append(list, x)
		}
	}
	m.Shuffle(len(list), func(i, j int) { list[i], list[j] = list[j], list[i] })
	return list
}

// find: a slot that will do; false: there is none.
func (m *maker) find(slots []api.Local, will func(l api.Local) bool) (int, bool) {
	for _, n := range m.Perm(len(slots)) {
		if will(slots[n]) {
			return n, true
		}
	}
	return 0, false
}

func alike(a, b api.Local) bool { return a.Kind == b.Kind && a.Rec == b.Rec }

// gives: an instruction that gives a slot a value.
func (m *maker) gives(s shape, dst int) (api.Instr, bool) {
	to := s.slots[dst]
	switch n := m.Intn(12); {
	case n < 2:
		n, ok := m.find(s.globals, func(l api.Local) bool { return alike(l, to) })
		return loadG(dst, n), ok
	case n < 9:
		return m.loadF(s, dst)
	case n == 9 && *s.makes < api.MaxSites && to.Kind == api.Ref:
		*s.makes++
		return makeRec(dst, to.Rec), true
	case n == 9 && *s.makes < api.MaxSites && to.Kind == api.Ints:
		*s.makes++
		return makeInts(dst), true
	case n == 10 && to.Kind == api.Int:
		array, ok := m.find(s.slots, func(l api.Local) bool { return l.Kind == api.Ints })
		if m.Intn(2) == 0 {
			return sizeOf(dst, array), ok
		}
		return loadE(dst, array, slot(m.Intn(len(s.slots)))), ok
	}
	return m.calc(s, dst), true
}

func (m *maker) loadF(s shape, dst int) (api.Instr, bool) {
	for range 8 {
		src := m.Intn(len(s.slots))
		if l := s.slots[src]; l.Kind == api.Ref {
			if n, ok := m.find(s.records[l.Rec], func(l api.Local) bool { return alike(l, s.slots[dst]) }); ok {
				return loadF(dst, src, l.Rec, n), true
			}
		}
	}
	return api.Instr{}, false
}

// calc: what is in another slot, mostly.
func (m *maker) calc(s shape, dst int) api.Instr {
	src, _ := m.find(s.slots, func(l api.Local) bool { return m.mixed || alike(l, s.slots[dst]) })
	switch m.Intn(8) {
	case 0:
		return calc(dst, push(uint64(m.Intn(len(s.slots)))))
	case 1:
		return calc(dst, slot(src), api.Item{Op: api.NegInt})
	}
	return move(dst, src)
}

func (m *maker) store(s shape) (api.Instr, bool) {
	src := m.Intn(len(s.slots))
	switch l := s.slots[src]; {
	case m.Intn(3) == 0 && len(s.globals) > 0:
		return storeG(m.Intn(len(s.globals))), true
	case l.Kind == api.Ref && len(s.records[l.Rec]) > 0:
		return storeF(src, l.Rec, m.Intn(len(s.records[l.Rec]))), true
	case l.Kind == api.Ints:
		return storeE(src, push(0)), true
	}
	return api.Instr{}, false
}

// shuffled: a code with what stands in each section in another order.
func (m *maker) shuffled(c api.Code) api.Code {
	out := copied(c)
	for _, s := range out.Sections {
		list := out.Threads[s.Thread].Code[s.From+1 : s.To]
		m.Shuffle(len(list), func(i, j int) { list[i], list[j] = list[j], list[i] })
		for at, x := range list {
			if x.Op == api.MakeRec || x.Op == api.MakeInts {
				out.Sites[x.N].At = s.From + 1 + at
			}
		}
	}
	return out
}
