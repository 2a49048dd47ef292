package lower

import (
	"padlock/api"
	"padlock/num"
)

var whole = api.Type{Kind: api.Int}

// right answers the instruction of a right side, but for its Dst, and of which type that is. It is to be put next, since a site is where it will stand.
func (w *writer) right(r api.Right) (api.Instr, api.Type) {
	switch r.Op {
	case api.Load:
		return w.place(r.Place, api.LoadG, api.LoadF, api.LoadE)
	case api.New:
		rec, _ := recordOf(w.program.Records, r.Name)
		return api.Instr{Op: api.MakeRec, Rec: rec, N: w.site(rec)}, api.Type{Kind: api.Ref, Rec: r.Name}
	case api.NewInts:
		items, _ := w.items(r.E)
		return api.Instr{Op: api.MakeInts, Items: items, N: w.site(-1)}, api.Type{Kind: api.Ints}
	case api.Size:
		return api.Instr{Op: api.SizeOf, Src: w.seen(r.Name).slot}, whole
	}
	items, t := w.items(r.E)
	return api.Instr{Op: api.DoCalc, Items: items}, t
}

// place answers the instruction that goes to a shared place, of the Op for its kind, and the type of what is there.
func (w *writer) place(p api.Place, global, field, elem int) (api.Instr, api.Type) {
	if p.Op == api.Global {
		n, g := namedOf(w.program.Globals, p.Base)
		return api.Instr{Op: global, N: n}, g.Type
	}
	base := w.seen(p.Base)
	if p.Op == api.Field {
		rec, r := recordOf(w.program.Records, base.kind.Rec)
		n, f := namedOf(r.Fields, p.Field)
		return api.Instr{Op: field, Src: base.slot, Rec: rec, N: n}, f.Type
	}
	index, _ := w.items(p.Index)
	return api.Instr{Op: elem, Src: base.slot, Index: index}, whole
}

// items answers an expression as items, and its type.
func (w *writer) items(e api.Expr) ([]api.Item, api.Type) {
	list, t := w.addItems(nil, e)
	w.long = w.long || len(list) > api.MaxItems
	return list, t
}

// addItems answers the list with an expression's items behind it, and the expression's type.
func (w *writer) addItems(list []api.Item, e api.Expr) ([]api.Item, api.Type) {
	var kid api.Type // two kids are of one type
	for _, k := range e.Kids {
		list, kid = w.addItems(list, k)
	}
	item, t := w.item(e, kid)
	return append(list, item), t
}

// item answers the item of an expression that stands behind those of its kids, and the expression's type.
func (w *writer) item(e api.Expr, kid api.Type) (api.Item, api.Type) {
	switch e.Op {
	case api.LitReal:
		return api.Item{Op: api.Push, N: num.Tidy(e.N)}, api.Type{Kind: api.Real}
	case api.Nobody:
		return api.Item{Op: api.Push}, e.Type
	case api.Input:
		return api.Item{Op: api.In, N: e.N}, whole
	case api.Var:
		l := w.seen(e.Name)
		return api.Item{Op: api.Slot, N: uint64(l.slot)}, l.kind
	case api.Neg:
		return api.Item{Op: byKind(kid, api.NegInt, api.NegReal, api.NegInt)}, kid
	case api.ToReal:
		return api.Item{Op: api.Widen}, api.Type{Kind: api.Real}
	case api.Trunc:
		return api.Item{Op: api.Narrow}, whole
	case api.Binary:
		item := api.Item{Op: byKind(kid, api.BinInt, api.BinReal, api.BinRef), Bin: e.Bin}
		if num.Op(e.Bin) >= num.Eq {
			return item, whole
		}
		return item, kid
	}
	return api.Item{Op: api.Push, N: e.N}, whole
}

// byKind answers what is to be taken for whole numbers, for reals, or for what means something.
func byKind(t api.Type, ofInt, ofReal, ofRef int) int {
	switch t.Kind {
	case api.Int:
		return ofInt
	case api.Real:
		return ofReal
	}
	return ofRef
}
