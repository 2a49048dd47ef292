package code

import (
	"padlock/api"
	"padlock/calc"
)

// looker looks at a thread of a code, whose lists it has as its own.
type looker struct {
	api.Code
	thread int
	body   api.Body
}

// shape tells which fields an instruction has beside its Op.
type shape struct{ dst, src, rec, n, to, items, index bool }

// shapeOf answers what the chapter's table names for an Op; not ok: there is no such instruction.
func shapeOf(op int) (shape, bool) {
	switch op {
	case api.DoCalc:
		return shape{dst: true, items: true}, true
	case api.LoadG:
		return shape{dst: true, n: true}, true
	case api.LoadF:
		return shape{dst: true, src: true, rec: true, n: true}, true
	case api.LoadE:
		return shape{dst: true, src: true, index: true}, true
	case api.StoreG:
		return shape{n: true, items: true}, true
	case api.StoreF:
		return shape{src: true, rec: true, n: true, items: true}, true
	case api.StoreE:
		return shape{src: true, index: true, items: true}, true
	case api.MakeRec:
		return shape{dst: true, rec: true, n: true}, true
	case api.MakeInts:
		return shape{dst: true, n: true, items: true}, true
	case api.SizeOf:
		return shape{dst: true, src: true}, true
	case api.PutInt, api.PutReal:
		return shape{items: true}, true
	case api.Jump:
		return shape{to: true}, true
	case api.Zero:
		return shape{to: true, items: true}, true
	case api.Begin, api.Leave:
		return shape{n: true}, true
	case api.Halt:
		return shape{}, true
	}
	return shape{}, false
}

// touchesShared answers whether instructions of an Op stand in sections alone.
func touchesShared(op int) bool {
	switch op {
	case api.LoadG, api.LoadF, api.LoadE, api.StoreG, api.StoreF, api.StoreE, api.MakeRec, api.MakeInts:
		return true
	}
	return false
}

func (l looker) canBe() bool {
	return len(l.body.Slots) <= api.MaxSlots && l.body.Most >= 0 && l.body.Most <= api.MaxSteps &&
		len(l.body.Code) > 0 && len(l.body.Code) <= api.MaxCode &&
		noneWrong(l.body.Code, func(at int, x api.Instr) bool { return !l.instrCanBe(at, x) })
}

func (l looker) instrCanBe(at int, x api.Instr) bool {
	f, ok := shapeOf(x.Op)
	last := at == len(l.body.Code)-1
	return ok && last == (x.Op == api.Halt) && (!touchesShared(x.Op) || l.section(at) >= 0) &&
		l.fieldsCanBe(f, at, x) && l.agrees(at, x)
}

// fieldsCanBe asks of the fields of an instruction one by one; what N is a place of hangs on the Op.
func (l looker) fieldsCanBe(f shape, at int, x api.Instr) bool {
	slot := func(n int) bool { return isPlace(n, l.body.Slots) }
	record := func(n int) bool { return isPlace(n, l.Records) }
	target := func(n int) bool { return isPlace(n, l.body.Code) && l.section(n) == l.section(at) }
	number := func(named bool, n int, good func(int) bool) bool {
		return named && good(n) || !named && n == 0
	}
	row := func(named bool, items []api.Item) bool {
		return named && calc.Good(len(l.body.Slots), items...) || !named && len(items) == 0
	}
	return number(f.dst, x.Dst, slot) && number(f.src, x.Src, slot) && number(f.rec, x.Rec, record) &&
		(f.n || x.N == 0) && number(f.to, x.To, target) && row(f.items, x.Items) && row(f.index, x.Index)
}

// agrees answers whether what the fields of an instruction are places of is of the kinds that the Op asks for, and means this very instruction, if it names one.
func (l looker) agrees(at int, x api.Instr) bool {
	switch x.Op {
	case api.LoadG:
		return isPlace(x.N, l.Globals) && l.holds(x.Dst, l.Globals[x.N])
	case api.StoreG:
		return isPlace(x.N, l.Globals)
	case api.LoadF:
		return l.hasField(x) && l.holds(x.Dst, l.Records[x.Rec][x.N])
	case api.StoreF:
		return l.hasField(x)
	case api.LoadE, api.SizeOf:
		return l.holds(x.Dst, api.Local{Kind: api.Int}) && l.holds(x.Src, api.Local{Kind: api.Ints})
	case api.StoreE:
		return l.holds(x.Src, api.Local{Kind: api.Ints})
	case api.MakeRec:
		return l.holds(x.Dst, api.Local{Kind: api.Ref, Rec: x.Rec}) && l.isSite(x.N, at, x.Rec)
	case api.MakeInts:
		return l.holds(x.Dst, api.Local{Kind: api.Ints}) && l.isSite(x.N, at, -1)
	case api.Begin:
		return isPlace(x.N, l.Sections) && l.Sections[x.N].Thread == l.thread && l.Sections[x.N].From == at
	case api.Leave:
		return isPlace(x.N, l.Sections) && l.Sections[x.N].Thread == l.thread && l.Sections[x.N].To == at
	}
	return true
}

// section answers in which section a place of the thread stands.
func (l looker) section(at int) int { return Inside(l.Code, l.thread, at) }

// holds answers whether a slot is of the Kind and the Rec of something.
func (l looker) holds(slot int, of api.Local) bool {
	s := l.body.Slots[slot]
	return s.Kind == of.Kind && s.Rec == of.Rec
}

// hasField answers whether a load or a store of a field names one that there is, of what is in its Src.
func (l looker) hasField(x api.Instr) bool {
	return l.holds(x.Src, api.Local{Kind: api.Ref, Rec: x.Rec}) && isPlace(x.N, l.Records[x.Rec])
}

func (l looker) isSite(site, at, rec int) bool {
	return isPlace(site, l.Sites) && l.Sites[site] == api.Site{Thread: l.thread, At: at, Rec: rec}
}
