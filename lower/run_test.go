package lower_test

import (
	"fmt"
	"maps"
	"slices"

	"padlock/api"
	"padlock/calc"
	"padlock/num"
)

// ran: what is there, and was printed, when threads were run one behind the other. What would trap is 0 here, or does nothing, so that all of it is run.
type ran struct {
	globals []uint64
	things  [][]uint64
	printed []string
}

func (r *ran) make(cells uint64) uint64 {
	if cells > api.MaxArray {
		return 0
	}
	r.things = append(r.things, make([]uint64, cells))
	return uint64(len(r.things))
}

// cell: that of a thing; nil, if there is none.
func (r *ran) cell(ref, at uint64) *uint64 {
	if ref == 0 || at >= uint64(len(r.things[ref-1])) {
		return new(uint64)
	}
	return &r.things[ref-1][at]
}

func (r *ran) size(ref uint64) uint64 {
	if ref == 0 {
		return 0
	}
	return uint64(len(r.things[ref-1]))
}

func (r *ran) print(kind string, value uint64) {
	r.printed = append(r.printed, fmt.Sprintf("%s %x", kind, value))
}

// inputs: some, but fewer than may be asked for.
var inputs = []int{3, -1, 0, 7, 1, 2, 5}

// runCode runs a code; and how many steps each thread made.
func runCode(c api.Code) (*ran, []int) {
	r := &ran{globals: make([]uint64, len(c.Globals))}
	var steps []int
	for _, b := range c.Threads {
		slots, made := make([]uint64, len(b.Slots)), 0
		for pc := 0; b.Code[pc].Op != api.Halt && made <= api.MaxSteps; made++ {
			pc = r.do(c, b.Code[pc], pc, slots)
		}
		steps = append(steps, made)
	}
	return r, steps
}

// do does an instruction, and answers which one is the next.
func (r *ran) do(c api.Code, x api.Instr, pc int, slots []uint64) int {
	index, _ := calc.Eval(slots, inputs, x.Index...)
	value, _ := calc.Eval(slots, inputs, x.Items...)
	switch x.Op {
	case api.DoCalc:
		slots[x.Dst] = value
	case api.LoadG:
		slots[x.Dst] = r.globals[x.N]
	case api.LoadF:
		slots[x.Dst] = *r.cell(slots[x.Src], uint64(x.N))
	case api.LoadE:
		slots[x.Dst] = *r.cell(slots[x.Src], index)
	case api.StoreG:
		r.globals[x.N] = value
	case api.StoreF:
		*r.cell(slots[x.Src], uint64(x.N)) = value
	case api.StoreE:
		*r.cell(slots[x.Src], index) = value
	case api.MakeRec:
		slots[x.Dst] = r.make(uint64(len(c.Records[x.Rec])))
	case api.MakeInts:
		slots[x.Dst] = r.make(value)
	case api.SizeOf:
		slots[x.Dst] = r.size(slots[x.Src])
	case api.PutInt:
		r.print("int", value)
	case api.PutReal:
		r.print("real", value)
	}
	if x.Op == api.Jump || x.Op == api.Zero && value == 0 {
		return x.To
	}
	return pc + 1
}

// reader runs a program as it stands in its text.
type reader struct {
	*ran
	p api.Program
}

// known: a value, and its type.
type known struct {
	bits uint64
	kind api.Type
}

// env: what the names that are seen mean.
type env map[string]*known

// gone: why what is behind a statement is left out: it broke off, or goes on with, the loop of a label, or the innermost one.
type gone struct {
	op    int
	label string
}

func runProgram(p api.Program) *ran {
	r := reader{&ran{globals: make([]uint64, len(p.Globals))}, p}
	for _, t := range p.Threads {
		r.block(t.Body, env{})
	}
	return r.ran
}

func (r reader) block(list []api.Stmt, outer env) gone {
	seen := maps.Clone(outer)
	for _, s := range list {
		if g := r.stmt(s, seen); g.op != 0 {
			return g
		}
	}
	return gone{}
}

func (r reader) stmt(s api.Stmt, seen env) gone {
	switch s.Op {
	case api.Let, api.VarStmt:
		k := r.right(s.Right, seen)
		seen[s.Name] = &k
	case api.Assign:
		*seen[s.Name] = r.right(s.Right, seen)
	case api.Set:
		cell, _ := r.place(s.Place, seen)
		*cell = r.value(s.E, seen).bits
	case api.Print:
		k := r.value(s.E, seen)
		r.print(map[int]string{api.Int: "int", api.Real: "real"}[k.kind.Kind], k.bits)
	case api.If:
		if r.value(s.E, seen).bits != 0 {
			return r.block(s.Body, seen)
		}
		return r.block(s.Else, seen)
	case api.Loop:
		return r.loop(s, seen)
	case api.Break, api.Continue:
		return gone{s.Op, s.Name}
	case api.Atomic:
		return r.block(s.Body, seen)
	case api.Call:
		f := r.p.Funs[slices.IndexFunc(r.p.Funs, func(f api.Fun) bool { return f.Name == s.Name })]
		inner := env{}
		for i, p := range f.Params {
			k := r.value(s.Args[i], seen)
			inner[p.Name] = &k
		}
		return r.block(f.Body, inner)
	}
	return gone{}
}

func (r reader) loop(s api.Stmt, seen env) gone {
	for range s.N {
		g := r.block(s.Body, seen)
		mine := g.label == "" || g.label == s.Name
		if g.op != 0 && !mine {
			return g
		}
		if g.op == api.Break {
			break
		}
	}
	return gone{}
}

func (r reader) right(x api.Right, seen env) known {
	switch x.Op {
	case api.Load:
		cell, kind := r.place(x.Place, seen)
		return known{*cell, kind}
	case api.New:
		rec := r.p.Records[slices.IndexFunc(r.p.Records, func(r api.Record) bool { return r.Name == x.Name })]
		return known{r.make(uint64(len(rec.Fields))), api.Type{Kind: api.Ref, Rec: x.Name}}
	case api.NewInts:
		return known{r.make(r.value(x.E, seen).bits), api.Type{Kind: api.Ints}}
	case api.Size:
		return known{r.size(seen[x.Name].bits), api.Type{Kind: api.Int}}
	}
	return r.value(x.E, seen)
}

func (r reader) place(p api.Place, seen env) (*uint64, api.Type) {
	if p.Op == api.Global {
		at := slices.IndexFunc(r.p.Globals, func(g api.Named) bool { return g.Name == p.Base })
		return &r.globals[at], r.p.Globals[at].Type
	}
	base := seen[p.Base]
	if p.Op == api.Elem {
		return r.cell(base.bits, r.value(p.Index, seen).bits), api.Type{Kind: api.Int}
	}
	fields := r.p.Records[slices.IndexFunc(r.p.Records, func(r api.Record) bool { return r.Name == base.kind.Rec })].Fields
	at := slices.IndexFunc(fields, func(f api.Named) bool { return f.Name == p.Field })
	return r.cell(base.bits, uint64(at)), fields[at].Type
}

// value: that of an expression; 0, if anything in it is divided by nought.
func (r reader) value(e api.Expr, seen env) known {
	k, ok := reckoned(e, seen)
	if !ok {
		return known{0, k.kind}
	}
	return k
}

func reckoned(e api.Expr, seen env) (known, bool) {
	whole, real := api.Type{Kind: api.Int}, api.Type{Kind: api.Real}
	var kids []known
	all := true
	for _, kid := range e.Kids {
		k, ok := reckoned(kid, seen)
		kids, all = append(kids, k), all && ok
	}
	switch e.Op {
	case api.Lit:
		return known{e.N, whole}, true
	case api.LitReal:
		return known{num.Tidy(e.N), real}, true
	case api.Nobody:
		return known{0, e.Type}, true
	case api.Input:
		if e.N < uint64(len(inputs)) {
			return known{uint64(inputs[e.N]), whole}, true
		}
		return known{0, whole}, true
	case api.Var:
		return *seen[e.Name], true
	case api.Neg:
		if kids[0].kind == real {
			return known{num.NegReal(kids[0].bits), real}, all
		}
		return known{-kids[0].bits, whole}, all
	case api.ToReal:
		return known{num.FromInt(int(kids[0].bits)), real}, all
	case api.Trunc:
		return known{uint64(num.Trunc(kids[0].bits)), whole}, all
	}
	op, kind := num.Op(e.Bin), kids[0].kind
	if op >= num.Eq {
		kind = whole
	}
	if kids[0].kind == real {
		return known{num.Real(op, kids[0].bits, kids[1].bits), kind}, all
	}
	value, ok := num.Int(op, int(kids[0].bits), int(kids[1].bits))
	return known{uint64(value), kind}, all && ok
}
