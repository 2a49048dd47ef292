package code_test

import (
	"math/rand"
	"reflect"
	"slices"
	"testing"

	"padlock/api"
	"padlock/code"
)

// maker: codes by chance, the same ones each time.
type maker struct{ *rand.Rand }

func made(seed int64) maker { return maker{rand.New(rand.NewSource(seed))} }

// pick: one of a list.
func pick[T any](m maker, list []T) T { return list[m.Intn(len(list))] }

func (m maker) local(records int) api.Local {
	if kind := 1 + m.Intn(4); kind < api.Ref || records == 0 {
		return local(1 + kind%3)
	}
	return ref(m.Intn(records))
}

func (m maker) locals(records, most int) []api.Local {
	out := make([]api.Local, m.Intn(most+1))
	for i := range out {
		out[i] = m.local(records)
	}
	return out
}

// items: a small expression.
func (m maker) items(slots int) []api.Item {
	out := push(m.Uint64())
	if slots > 0 && m.Intn(2) == 0 {
		out = slot(uint64(m.Intn(slots)))
	}
	if m.Intn(3) == 0 {
		return append(append(out, m.items(slots)...), api.Item{Op: api.BinInt, Bin: m.Intn(9)})
	}
	return out
}

// code: a code that can be.
func (m maker) code() api.Code {
	var c api.Code
	records := m.Intn(api.MaxRecords + 1)
	for range records {
		c.Records = append(c.Records, m.locals(records, api.MaxFields))
	}
	c.Globals = m.locals(records, api.MaxGlobals)
	for range m.Intn(api.MaxThreads + 1) {
		m.thread(&c)
	}
	return m.renumbered(c)
}

// thread puts one more thread, with its sections and sites, numbered as they come.
func (m maker) thread(c *api.Code) {
	at := len(c.Threads)
	b := api.Body{Slots: m.locals(len(c.Records), 12), Most: m.Intn(api.MaxSteps + 1)}
	for i := range b.Slots {
		b.Slots[i].Once = m.Intn(3) == 0
	}
	var sections []api.Section
	for range m.Intn(5) {
		for range m.Intn(4) {
			b.Code = append(b.Code, m.instr(c, b.Slots, at, len(b.Code), false))
		}
		s := api.Section{Thread: at, From: len(b.Code)}
		n := len(c.Sections) + len(sections)
		b.Code = append(b.Code, api.Instr{Op: api.Begin, N: n})
		for range m.Intn(7) {
			b.Code = append(b.Code, m.instr(c, b.Slots, at, len(b.Code), true))
		}
		s.To = len(b.Code)
		b.Code = append(b.Code, api.Instr{Op: api.Leave, N: n})
		sections = append(sections, s)
	}
	b.Code = append(b.Code, halts(1+m.Intn(3))...)
	m.jumps(b.Code, sections)
	c.Threads = append(c.Threads, b)
	c.Sections = append(c.Sections, sections...)
}

// instr: an instruction that can be there; jumps have no target yet.
func (m maker) instr(c *api.Code, slots []api.Local, thread, at int, inside bool) api.Instr {
	of := func(l api.Local) []int {
		var out []int
		for i, s := range slots {
			if s.Kind == l.Kind && s.Rec == l.Rec {
				out = append(out, i)
			}
		}
		return out
	}
	ops := []int{api.DoCalc, api.SizeOf, api.PutInt, api.PutReal, api.Jump, api.Zero}
	if inside {
		ops = append(ops, sharedOps...)
	}
	for {
		x := api.Instr{Op: pick(m, ops)}
		if m.filled(c, &x, slots, of) {
			if x.Op == api.MakeRec || x.Op == api.MakeInts {
				x.N = len(c.Sites)
				rec := x.Rec
				if x.Op == api.MakeInts {
					rec = -1
				}
				c.Sites = append(c.Sites, api.Site{Thread: thread, At: at, Rec: rec})
			}
			return x
		}
	}
}

// filled gives an instruction what its Op asks for; false: there is no such slot, global, field, or room for a site.
func (m maker) filled(c *api.Code, x *api.Instr, slots []api.Local, of func(api.Local) []int) bool {
	dst, src := api.Local{}, api.Local{}
	switch x.Op {
	case api.DoCalc:
		if len(slots) == 0 {
			return false
		}
		dst = pick(m, slots)
	case api.LoadE, api.SizeOf:
		dst, src = local(api.Int), local(api.Ints)
	case api.StoreE:
		src = local(api.Ints)
	case api.LoadG, api.StoreG:
		if len(c.Globals) == 0 {
			return false
		}
		x.N = m.Intn(len(c.Globals))
		if x.Op == api.LoadG {
			dst = c.Globals[x.N]
		}
	case api.LoadF, api.StoreF, api.MakeRec:
		if len(c.Records) == 0 {
			return false
		}
		x.Rec = m.Intn(len(c.Records))
		fields := c.Records[x.Rec]
		if x.Op == api.MakeRec {
			dst = ref(x.Rec)
			break
		}
		if len(fields) == 0 {
			return false
		}
		src, x.N = ref(x.Rec), m.Intn(len(fields))
		if x.Op == api.LoadF {
			dst = fields[x.N]
		}
	case api.MakeInts:
		dst = local(api.Ints)
	}
	if (x.Op == api.MakeRec || x.Op == api.MakeInts) && len(c.Sites) == api.MaxSites {
		return false
	}
	return m.slotted(&x.Dst, dst, of) && m.slotted(&x.Src, src, of) && m.rows(x, len(slots))
}

// slotted gives a number a slot of a kind, if one is asked for; false: there is none.
func (m maker) slotted(n *int, l api.Local, of func(api.Local) []int) bool {
	if l.Kind == 0 {
		return true
	}
	list := of(l)
	if len(list) == 0 {
		return false
	}
	*n = pick(m, list)
	return true
}

func (m maker) rows(x *api.Instr, slots int) bool {
	switch x.Op {
	case api.LoadE:
		x.Index = m.items(slots)
	case api.StoreE:
		x.Index, x.Items = m.items(slots), m.items(slots)
	case api.DoCalc, api.StoreG, api.StoreF, api.MakeInts, api.PutInt, api.PutReal, api.Zero:
		x.Items = m.items(slots)
	}
	return true
}

// jumps gives each jump a target that stands where it does.
func (m maker) jumps(list []api.Instr, sections []api.Section) {
	stand := func(at int) int {
		return slices.IndexFunc(sections, func(s api.Section) bool { return s.From < at && at <= s.To })
	}
	for at := range list {
		if list[at].Op != api.Jump && list[at].Op != api.Zero {
			continue
		}
		to := m.Intn(len(list))
		for stand(to) != stand(at) {
			to = m.Intn(len(list))
		}
		list[at].To = to
	}
}

// renumbered: the same code with its sections and sites in another order.
func (m maker) renumbered(c api.Code) api.Code {
	sections, sites := m.Perm(len(c.Sections)), m.Perm(len(c.Sites))
	out := c
	out.Sections, out.Sites = make([]api.Section, len(sections)), make([]api.Site, len(sites))
	for was, n := range sections {
		out.Sections[n] = c.Sections[was]
	}
	for was, n := range sites {
		out.Sites[n] = c.Sites[was]
	}
	for _, b := range c.Threads {
		for at, x := range b.Code {
			switch x.Op {
			case api.Begin, api.Leave:
				b.Code[at].N = sections[x.N]
			case api.MakeRec, api.MakeInts:
				b.Code[at].N = sites[x.N]
			}
		}
	}
	return out
}

// number: a small one, mostly.
func (m maker) number() int {
	if m.Intn(30) == 0 {
		return int(m.Uint64())
	}
	return m.Intn(14) - 1
}

// spoil changes one thing of a code.
func (m maker) spoil(c *api.Code) {
	if len(c.Threads) == 0 || m.Intn(3) == 0 {
		m.spoilLists(c)
		return
	}
	b := &c.Threads[m.Intn(len(c.Threads))]
	at := m.Intn(len(b.Code) + 1)
	if at == len(b.Code) {
		m.spoilBody(b, len(c.Records))
		return
	}
	x := &b.Code[at]
	switch m.Intn(9) {
	case 0:
		x.Op = m.Intn(20) - 1
	case 1, 2, 3:
		put(x, pick(m, numbers), m.number())
	case 4:
		x.Items = m.otherRow(len(b.Slots))
	case 5:
		x.Index = m.otherRow(len(b.Slots))
	case 6:
		other := m.Intn(len(b.Code))
		b.Code[at], b.Code[other] = b.Code[other], b.Code[at]
	case 7:
		if len(b.Code) > 1 {
			b.Code = slices.Delete(b.Code, at, at+1)
		}
	case 8:
		b.Code = slices.Insert(b.Code, at, pick(m, b.Code))
	}
}

func (m maker) otherRow(slots int) []api.Item {
	switch m.Intn(4) {
	case 0:
		return nil
	case 1:
		return slot(uint64(slots + m.Intn(3) - 1))
	case 2:
		return append(m.items(slots), api.Item{Op: m.Intn(12), N: uint64(m.Intn(3))})
	}
	return m.items(slots)
}

func (m maker) spoilBody(b *api.Body, records int) {
	switch m.Intn(6) {
	case 0:
		b.Most = pick(m, []int{-1, 0, 4096, 4097, m.number()})
	case 1:
		b.Code = slices.Insert(b.Code, 0, times(pick(m, []int{256, 257, 1})-min(len(b.Code), 1), api.Instr{Op: api.PutInt, Items: push(0)})...)
	case 2:
		b.Slots = append(b.Slots, times(64+m.Intn(3)-min(len(b.Slots), 64), local(api.Int))...)
	case 3:
		b.Code = nil
	default:
		if len(b.Slots) > 0 {
			b.Slots[m.Intn(len(b.Slots))] = m.otherLocal(records)
		}
	}
}

// otherLocal: one that can be, or nearly.
func (m maker) otherLocal(records int) api.Local {
	return api.Local{Kind: m.Intn(6), Rec: max(0, m.Intn(records+4)-2) - m.Intn(2), Once: m.Intn(2) == 0}
}

// spoilLists changes one thing of a code beside its threads.
func (m maker) spoilLists(c *api.Code) {
	switch m.Intn(13) {
	case 0:
		c.Records = append(c.Records, make([][]api.Local, 1+m.Intn(6))...)
	case 1:
		c.Globals = append(c.Globals, times(1+m.Intn(8), local(api.Int))...)
	case 2:
		c.Threads = append(c.Threads, times(1+m.Intn(4), api.Body{Code: halts(1)})...)
	case 3:
		if len(c.Records) > 0 {
			fields := &c.Records[m.Intn(len(c.Records))]
			*fields = append(*fields, times(1+m.Intn(4), local(api.Real))...)
		}
	case 4:
		if len(c.Globals) > 0 {
			c.Globals[m.Intn(len(c.Globals))] = m.otherLocal(len(c.Records))
		}
	case 5:
		if fields := slices.Concat(c.Records...); len(fields) > 0 {
			m.spoilField(c)
		}
	case 6:
		spoilRow(m, &c.Sections, func(s *api.Section) []*int { return []*int{&s.Thread, &s.From, &s.To} })
	case 7:
		spoilRow(m, &c.Sites, func(s *api.Site) []*int { return []*int{&s.Thread, &s.At, &s.Rec} })
	case 8:
		c.Sites = append(c.Sites, times(max(0, 31+m.Intn(3)-len(c.Sites)), api.Site{})...)
	case 9:
		m.addPairs(c)
	case 10:
		m.addMakes(c)
	case 11:
		c.Sections = append(c.Sections, api.Section{Thread: m.number(), From: m.number(), To: m.number()})
	case 12:
		m.nest(c)
	}
}

func (m maker) spoilField(c *api.Code) {
	for {
		if fields := pick(m, c.Records); len(fields) > 0 {
			fields[m.Intn(len(fields))] = m.otherLocal(len(c.Records))
			return
		}
	}
}

// spoilRow changes a number of one of a list, or takes it out, or puts it twice, or lets two be the other way.
func spoilRow[T any](m maker, list *[]T, parts func(*T) []*int) {
	if len(*list) == 0 {
		return
	}
	at, other := m.Intn(len(*list)), m.Intn(len(*list))
	switch m.Intn(6) {
	case 0:
		*list = slices.Delete(*list, at, at+1)
	case 1:
		*list = append(*list, (*list)[at])
	case 2:
		(*list)[at], (*list)[other] = (*list)[other], (*list)[at]
	default:
		n := pick(m, parts(&(*list)[at]))
		*n = pick(m, []int{m.number(), *n - 1, *n + 1})
	}
}

// addPairs puts a thread of as many sections as there may be, or one more.
func (m maker) addPairs(c *api.Code) {
	list, sections := pairs(len(c.Threads), len(c.Sections), 32+m.Intn(2)-len(c.Sections))
	c.Threads = append(c.Threads, api.Body{Code: list})
	c.Sections = append(c.Sections, sections...)
}

// addMakes puts a thread that makes as many arrays as there may be sites, or one more.
func (m maker) addMakes(c *api.Code) {
	more := makes(max(0, 32+m.Intn(2)-len(c.Sites)))
	for at, x := range more.Threads[0].Code {
		switch x.Op {
		case api.Begin, api.Leave:
			more.Threads[0].Code[at].N += len(c.Sections)
		case api.MakeInts:
			more.Threads[0].Code[at].N += len(c.Sites)
		}
	}
	for i := range more.Sites {
		more.Sites[i].Thread = len(c.Threads)
	}
	more.Sections[0].Thread = len(c.Threads)
	c.Threads = append(c.Threads, more.Threads...)
	c.Sites = append(c.Sites, more.Sites...)
	c.Sections = append(c.Sections, more.Sections...)
}

// nest puts a section into another one, in the place of two instructions of it.
func (m maker) nest(c *api.Code) {
	for n, s := range c.Sections {
		if s.Thread < 0 || s.Thread >= len(c.Threads) || s.From < 0 || s.To >= len(c.Threads[s.Thread].Code) || s.From+2 >= s.To {
			continue
		}
		in := api.Section{Thread: s.Thread, From: s.From + 1, To: s.From + 2 + m.Intn(s.To-s.From-2)}
		if n%2 == 1 {
			in.From = in.To - 1
		}
		list := c.Threads[s.Thread].Code
		list[in.From] = api.Instr{Op: api.Begin, N: len(c.Sections)}
		list[in.To] = api.Instr{Op: api.Leave, N: len(c.Sections)}
		c.Sections = append(c.Sections, in)
		return
	}
}

// P9.1: codes by chance can be, and codes like them with something changed are held against another telling; each thing that may be wrong was once the only one.
func TestManyCodes(t *testing.T) {
	m := made(9)
	alone, good := map[string]int{}, 0
	for range 30000 {
		c := m.code()
		for k := range 3 {
			wrong := wrongs(c)
			if got := code.Good(c); got != (len(wrong) == 0) || k == 0 && !got {
				t.Fatalf("%+v: %v; the other telling finds %q", c, got, wrong)
			}
			if len(wrong) == 0 {
				good++
				keepsTo(t, c)
			} else if len(wrong) == 1 {
				alone[wrong[0]]++
			}
			m.spoil(&c)
		}
	}
	for _, what := range reasons {
		// A record that there isn't can't be that of a slot, either.
		if what == "rec" {
			continue
		}
		if alone[what] < 3 {
			t.Errorf("%q was the only thing wrong %d times: too few", what, alone[what])
		}
	}
	if good < 35000 {
		t.Errorf("%d codes that can be: too few", good)
	}
}

// stand: the N of the section in which a place stands, told by the Begins and Leaves ahead of it alone; -1: in none.
func stand(list []api.Instr, at int) int {
	for at--; at >= 0; at-- {
		switch list[at].Op {
		case api.Begin:
			return list[at].N
		case api.Leave:
			return -1
		}
	}
	return -1
}

// P9.2, of a code that can be: whatever is shared is touched in sections alone, no jump goes into one, or out of one, and whatever way a thread goes it is in the section in which it stands.
func keepsTo(t *testing.T, c api.Code) {
	t.Helper()
	for thread, b := range c.Threads {
		for at, x := range b.Code {
			in := stand(b.Code, at)
			if got := code.Inside(c, thread, at); got != in {
				t.Errorf("%+v: thread %d, place %d stands in %d, not %d", c, thread, at, got, in)
			}
			if in < 0 && slices.Contains(sharedOps, x.Op) {
				t.Errorf("%+v: thread %d, place %d is outside", c, thread, at)
			}
			if (x.Op == api.Jump || x.Op == api.Zero) && stand(b.Code, x.To) != in {
				t.Errorf("%+v: thread %d, place %d jumps out, or in", c, thread, at)
			}
		}
		ways(t, c, b.Code)
	}
}

// ways goes all ways of a thread, and asks at each place whether it is in a section just where it stands in that one.
func ways(t *testing.T, c api.Code, list []api.Instr) {
	t.Helper()
	type state struct{ at, in int }
	seen := map[state]bool{}
	work := []state{{0, -1}}
	for len(work) > 0 {
		s := work[len(work)-1]
		work = work[:len(work)-1]
		if seen[s] {
			continue
		}
		seen[s] = true
		x := list[s.at]
		if s.in != stand(list, s.at) || s.in < 0 && slices.Contains(sharedOps, x.Op) {
			t.Errorf("%+v: a way leads to place %d in section %d", c, s.at, s.in)
		}
		next := state{s.at + 1, s.in}
		switch x.Op {
		case api.Begin:
			next.in = x.N
		case api.Leave:
			next.in = -1
		}
		if x.Op == api.Jump || x.Op == api.Zero {
			work = append(work, state{x.To, s.in})
		}
		if x.Op != api.Jump && x.Op != api.Halt {
			work = append(work, next)
		}
	}
}

// P9.2: the codes of hand, too.
func TestKeepsTo(t *testing.T) {
	for _, c := range []api.Code{full(), {}, alone(), makes(api.MaxSites)} {
		if !code.Good(c) {
			t.Errorf("%+v can't be", c)
		}
		keepsTo(t, c)
	}
}

// anyOf fills whatever it is given with small numbers, and lists of a few parts.
func (m maker) anyOf(v reflect.Value) {
	switch v.Kind() {
	case reflect.Struct:
		for i := range v.NumField() {
			m.anyOf(v.Field(i))
		}
	case reflect.Slice:
		list := reflect.MakeSlice(v.Type(), m.Intn(4), 4)
		for i := range list.Len() {
			m.anyOf(list.Index(i))
		}
		v.Set(list)
	case reflect.Int:
		v.SetInt(int64(m.number()))
	case reflect.Uint64:
		v.SetUint(uint64(m.number()))
	case reflect.Bool:
		v.SetBool(m.Intn(2) == 0)
	}
}

// P9.1: any codes at all: each call ends, and answers what it must.
func TestAnyCodes(t *testing.T) {
	m := made(91)
	for range 30000 {
		var c api.Code
		m.anyOf(reflect.ValueOf(&c).Elem())
		if got, wrong := code.Good(c), wrongs(c); got != (len(wrong) == 0) {
			t.Fatalf("%+v: %v; the other telling finds %q", c, got, wrong)
		}
		for thread := -2; thread < 6; thread++ {
			at, want := m.number(), -1
			for n, s := range slices.Backward(c.Sections) {
				if s.Thread == thread && !(s.From >= at || s.To < at) {
					want = n
				}
			}
			if got := code.Inside(c, thread, at); got != want {
				t.Errorf("%+v: Inside of %d, %d: %d; want %d", c, thread, at, got, want)
			}
		}
	}
}

// What is handed in isn't changed, spare room included.
func TestLeftAlone(t *testing.T) {
	m := made(92)
	for range 2000 {
		c := m.code()
		for range m.Intn(3) {
			m.spoil(&c)
		}
		had := reflect.ValueOf(&c).Elem()
		was := copied(had)
		code.Good(c)
		code.Inside(c, 0, 3)
		if !reflect.DeepEqual(copied(had).Interface(), was.Interface()) {
			t.Fatalf("%+v was %+v", c, was)
		}
	}
}

// copied: a value with new lists, as long as there is room in the old ones.
func copied(v reflect.Value) reflect.Value {
	out := reflect.New(v.Type()).Elem()
	out.Set(v)
	switch v.Kind() {
	case reflect.Struct:
		for i := range v.NumField() {
			out.Field(i).Set(copied(v.Field(i)))
		}
	case reflect.Slice:
		whole := v.Slice(0, v.Cap())
		list := reflect.MakeSlice(v.Type(), whole.Len(), whole.Len())
		for i := range whole.Len() {
			list.Index(i).Set(copied(whole.Index(i)))
		}
		out.Set(list)
	}
	return out
}
