package show_test

import (
	"math"
	"math/rand"

	"padlock/api"
)

// maker makes programs by chance, as layer 4 says, of such names and numbers.
type maker struct {
	*rand.Rand
	names   []string
	numbers []uint64
	turns   []int
}

// parseable: of names and numbers that a text may have.
func parseable(r *rand.Rand) maker {
	return maker{r, []string{"x", "y", "g", "R", "_", "_9", "ints_", "Loop", "looped", "nil0", "re"}, []uint64{0, 1, 7, 10, 100, 101, math.MaxInt64}, []int{0, 1, 3, 100, 101, math.MaxInt}}
}

// wild: of names and numbers of any kind.
func wild(r *rand.Rand) maker {
	return maker{r, []string{"", " ", "x", "let", "a b", "}\n", "\t", "é\xff", "\x00", "//", ";", "(", "12"}, []uint64{0, 1, 1 << 63, math.MaxUint64, 1 << 40}, []int{0, -1, math.MinInt, math.MaxInt, 5}}
}

func one[T any](m maker, of []T) T { return of[m.Intn(len(of))] }

func (m maker) name() string { return one(m, m.names) }

// some: up to so many of such; few more often.
func some[T any](m maker, most int, make func() T) []T {
	var out []T
	for range m.Intn(m.Intn(most+1) + 1) {
		out = append(out, make())
	}
	return out
}

func (m maker) meaning() api.Type {
	return one(m, []api.Type{{Kind: api.Ints}, {Kind: api.Ref, Rec: m.name()}})
}

func (m maker) types() api.Type {
	return one(m, []api.Type{{Kind: api.Int}, {Kind: api.Real}, m.meaning(), m.meaning()})
}

func (m maker) named() api.Named { return api.Named{Name: m.name(), Type: m.types()} }

func (m maker) expr(deep int) api.Expr {
	if deep == 0 || m.Intn(4) == 0 {
		return one(m, []api.Expr{lit(one(m, m.numbers)), bits(m.Uint64() >> m.Intn(64)), nobody(m.meaning()), input(one(m, m.numbers)), name(m.name())})
	}
	if m.Intn(3) == 0 {
		return of(one(m, []int{api.Neg, api.ToReal, api.Trunc}), m.expr(deep-1))
	}
	return api.Expr{Op: api.Binary, Bin: m.Intn(9), Kids: []api.Expr{m.expr(deep - 1), m.expr(deep - 1)}}
}

func (m maker) place() api.Place {
	return one(m, []api.Place{
		{Op: api.Global, Base: m.name()}, {Op: api.Field, Base: m.name(), Field: m.name()}, {Op: api.Elem, Base: m.name(), Index: m.expr(2)},
	})
}

func (m maker) right() api.Right {
	return one(m, []api.Right{
		calc(m.expr(3)), {Op: api.Load, Place: m.place()}, {Op: api.New, Name: m.name()}, {Op: api.NewInts, E: m.expr(3)}, {Op: api.Size, Name: m.name()},
	})
}

// label: a name, or none.
func (m maker) label() string { return one(m, []string{"", m.name()}) }

func (m maker) stmt(deep int) api.Stmt {
	if deep > 0 && m.Intn(2) == 0 {
		return one(m, []api.Stmt{
			{Op: api.If, E: m.expr(3), Body: m.stmts(deep - 1), Else: m.stmts(deep - 1)}, {Op: api.If, E: m.expr(3), Body: m.stmts(deep - 1)},
			{Op: api.Loop, Name: m.label(), N: one(m, m.turns), Body: m.stmts(deep - 1)}, {Op: api.Atomic, Body: m.stmts(deep - 1)},
		})
	}
	return one(m, []api.Stmt{
		{Op: one(m, []int{api.Let, api.VarStmt, api.Assign}), Name: m.name(), Right: m.right()}, {Op: api.Set, Place: m.place(), E: m.expr(3)}, {Op: api.Print, E: m.expr(4)},
		{Op: one(m, []int{api.Break, api.Continue}), Name: m.label()}, {Op: api.Call, Name: m.name(), Args: some(m, 3, func() api.Expr { return m.expr(2) })},
	})
}

func (m maker) stmts(deep int) []api.Stmt {
	return some(m, 4, func() api.Stmt { return m.stmt(deep) })
}

func (m maker) program() api.Program {
	return api.Program{
		Records: some(m, 3, func() api.Record { return api.Record{Name: m.name(), Fields: some(m, 4, m.named)} }),
		Globals: some(m, 3, m.named),
		Funs: some(m, 3, func() api.Fun {
			return api.Fun{Name: m.name(), Params: some(m, 4, m.named), Body: m.stmts(3)}
		}),
		Threads: some(m, 3, func() api.Thread { return api.Thread{Body: m.stmts(4)} }),
	}
}
