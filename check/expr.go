package check

import (
	"padlock/api"
	"padlock/num"
)

var whole = api.Type{Kind: api.Int}

func isNumber(t api.Type) bool {
	return t.Kind == api.Int || t.Kind == api.Real
}

// fits asks of an expression, and then whether it is of that type.
func (c *checker) fits(e api.Expr, t api.Type) {
	need(c.expr(e) == t, api.ErrType, spot{e.Line, e.Col})
}

// expr asks of an expression, its kids first, and answers its type.
func (c *checker) expr(e api.Expr) api.Type {
	kids := make([]api.Type, len(e.Kids))
	for i, kid := range e.Kids {
		kids[i] = c.expr(kid)
	}
	at := spot{e.Line, e.Col}
	switch e.Op {
	case api.Lit:
		return whole
	case api.LitReal:
		return api.Type{Kind: api.Real}
	case api.Nobody:
		c.known(e.Type, at)
		return e.Type
	case api.Input:
		need(e.N < api.MaxInput, api.ErrSize, at)
		return whole
	case api.Var:
		return c.seen(e.Name, at).kind
	}
	t, ok := reckoned(e, kids)
	need(ok, api.ErrType, at)
	return t
}

// reckoned answers the type of what is reckoned of kids, whose number tells a Binary from the others; not ok: their types don't go together.
func reckoned(e api.Expr, kids []api.Type) (api.Type, bool) {
	switch len(kids) {
	case 1:
		return ofOne(e.Op, kids[0])
	case 2:
		return ofTwo(num.Op(e.Bin), kids[0], kids[1])
	}
	return api.Type{}, false
}

func ofOne(op int, t api.Type) (api.Type, bool) {
	switch op {
	case api.ToReal:
		return api.Type{Kind: api.Real}, t.Kind == api.Int
	case api.Trunc:
		return whole, t.Kind == api.Real
	}
	return t, isNumber(t)
}

func ofTwo(op num.Op, a, b api.Type) (api.Type, bool) {
	switch op {
	case num.Eq, num.Ne:
		return whole, a == b
	case num.Lt, num.Le:
		return whole, a == b && isNumber(a)
	case num.Rem:
		return whole, a == b && a.Kind == api.Int
	}
	return a, a == b && isNumber(a)
}

// place asks of a shared place, and answers the type of what is there.
func (c *checker) place(p api.Place) api.Type {
	at := spot{p.Line, p.Col}
	if p.Op == api.Global {
		g, ok := namedOf(c.program.Globals, p.Base)
		need(ok, api.ErrName, at)
		return g.Type
	}
	base := c.seen(p.Base, at).kind
	if p.Op == api.Field {
		return c.field(base, p.Field, at)
	}
	need(base.Kind == api.Ints, api.ErrType, at)
	c.fits(p.Index, whole)
	return whole
}

// field answers the type of a field of what is of a type.
func (c *checker) field(t api.Type, name string, at spot) api.Type {
	need(t.Kind == api.Ref, api.ErrType, at)
	r, _ := recordOf(c.program.Records, t.Rec)
	f, ok := namedOf(r.Fields, name)
	need(ok, api.ErrName, at)
	return f.Type
}

// right asks of a right side, and answers its type.
func (c *checker) right(r api.Right) api.Type {
	at := spot{r.Line, r.Col}
	switch r.Op {
	case api.Load:
		return c.place(r.Place)
	case api.New:
		c.knownRecord(r.Name, at)
		return api.Type{Kind: api.Ref, Rec: r.Name}
	case api.NewInts:
		c.fits(r.E, whole)
		return api.Type{Kind: api.Ints}
	case api.Size:
		need(c.seen(r.Name, at).kind.Kind == api.Ints, api.ErrType, at)
		return whole
	}
	return c.expr(r.E)
}
