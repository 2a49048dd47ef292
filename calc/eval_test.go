package calc_test

import (
	"math"
	"math/big"
	"slices"
	"testing"

	"padlock/api"
	"padlock/calc"
	"padlock/num"
)

// quotient and rest, of the two values ahead.
var (
	quotient = two(api.BinInt, num.Div)
	rest     = two(api.BinInt, num.Rem)
)

// P8.1: the chapter's example.
func TestExampleOfTheChapter(t *testing.T) {
	items := row(push(2), slot(0), two(api.BinInt, num.Add))
	for n, want := range map[int]int{0: 2, 5: 7, -2: 0, -9: -7, math.MaxInt: math.MinInt + 1} {
		is(t, uint64(want), []uint64{uint64(n)}, nil, items...)
	}
	if used := calc.Uses(items...); !slices.Equal(used, []int{0}) {
		t.Errorf("it uses %d", used)
	}
}

// P8.1: what comes without anything that is taken.
func TestPush(t *testing.T) {
	for _, bits := range edges() {
		is(t, bits, nil, nil, push(bits))
		is(t, bits, []uint64{1}, []int{2}, push(bits))
	}
}

// P8.1: each slot, of few and of many.
func TestSlot(t *testing.T) {
	for _, many := range []int{1, 2, 3, 16, 63, 64, 65, 300} {
		slots := make([]uint64, many)
		for i := range slots {
			slots[i] = edges()[i%len(edges())] ^ uint64(i)<<8
		}
		for i, bits := range slots {
			is(t, bits, slots, []int{7, 8, 9}, slot(uint64(i)))
		}
		good(t, false, many, slot(uint64(many)))
	}
}

// P8.1: each input, of none, of fewer than are named, and of more than may be.
func TestIn(t *testing.T) {
	all := []int{10, -20, 0, math.MinInt, math.MaxInt, -1, 1, 77, -78, 79, 80, 81, 82, 83, 84, -85, 86, 87, 88}
	for many := range len(all) + 1 {
		inputs := all[:many:many]
		for i := range api.MaxInput {
			want := 0
			if i < many {
				want = all[i]
			}
			is(t, uint64(want), []uint64{5, 6}, inputs, in(uint64(i)))
		}
		for _, n := range []uint64{16, 17, 18, 19, negBit, math.MaxUint64} {
			if value, trap := calc.Eval([]uint64{5, 6}, inputs, in(n)); value != 0 || trap != api.NoTrap {
				t.Errorf("%d inputs, In %d: %d, %d", many, n, value, trap)
			}
		}
	}
	// What lies behind the inputs in the same memory is none of them.
	is(t, 0, nil, all[:3], in(3))
}

// P8.1: what is made of one value, by hand.
func TestItemsOfOneValue(t *testing.T) {
	for _, c := range []struct {
		op         int
		from, want uint64
	}{
		{api.NegInt, 0, 0}, {api.NegInt, 1, math.MaxUint64}, {api.NegInt, math.MaxUint64, 1}, {api.NegInt, 7, 1<<64 - 7},
		{api.NegInt, negBit, negBit}, {api.NegInt, negBit + 1, negBit - 1}, {api.NegInt, negBit - 1, negBit + 1},
		{api.NegReal, 0, negZero}, {api.NegReal, negZero, 0}, {api.NegReal, bitsOf(2.5), bitsOf(-2.5)}, {api.NegReal, bitsOf(-2.5), bitsOf(2.5)},
		{api.NegReal, plusInf, lessInf}, {api.NegReal, lessInf, plusInf}, {api.NegReal, num.NaN, num.NaN}, {api.NegReal, 1, negBit + 1},
		{api.Widen, 0, 0}, {api.Widen, 1, bitsOf(1)}, {api.Widen, math.MaxUint64, bitsOf(-1)}, {api.Widen, negBit, bitsOf(-1 << 63)}, {api.Widen, negBit - 1, bitsOf(1 << 63)},
		{api.Widen, 1<<53 + 1, bitsOf(1 << 53)}, {api.Widen, 1<<53 + 3, bitsOf(1<<53 + 4)},
		{api.Narrow, 0, 0}, {api.Narrow, negZero, 0}, {api.Narrow, bitsOf(-0.5), 0}, {api.Narrow, bitsOf(2.9), 2}, {api.Narrow, bitsOf(-2.9), 1<<64 - 2},
		{api.Narrow, plusInf, math.MaxInt}, {api.Narrow, lessInf, negBit}, {api.Narrow, bitsOf(1 << 63), math.MaxInt}, {api.Narrow, bitsOf(-1 << 63), negBit}, {api.Narrow, num.NaN, 0},
	} {
		is(t, c.want, nil, nil, push(c.from), one(c.op))
		is(t, c.want, []uint64{3, c.from}, nil, slot(1), one(c.op))
	}
	for _, bits := range unlike() {
		is(t, num.NaN, nil, nil, push(bits), one(api.NegReal))
		is(t, 0, nil, nil, push(bits), one(api.Narrow))
	}
}

// P8.1: what is made of two values, by hand: the lower one comes first.
func TestItemsOfTwoValues(t *testing.T) {
	least, most := math.MinInt, math.MaxInt
	for _, c := range []struct {
		bin        num.Op
		a, b, want int
	}{
		{num.Add, 2, 3, 5}, {num.Add, most, 1, least}, {num.Add, least, -1, most}, {num.Sub, 2, 7, -5}, {num.Sub, 7, 2, 5}, {num.Sub, least, 1, most},
		{num.Mul, -3, 4, -12}, {num.Mul, least, -1, least}, {num.Mul, most, 2, -2}, {num.Mul, 1 << 32, 1 << 32, 0},
		{num.Div, 7, 2, 3}, {num.Div, -7, 2, -3}, {num.Div, 7, -2, -3}, {num.Div, 2, 7, 0}, {num.Div, least, -1, least}, {num.Div, -1, least, 0}, {num.Div, 0, 5, 0}, {num.Div, least, 1, least}, {num.Div, most, -1, -most},
		{num.Rem, 7, 2, 1}, {num.Rem, -7, 2, -1}, {num.Rem, 7, -2, 1}, {num.Rem, 2, 7, 2}, {num.Rem, least, -1, 0}, {num.Rem, -1, least, -1}, {num.Rem, 0, -5, 0},
		{num.Eq, 4, 4, 1}, {num.Eq, 4, 5, 0}, {num.Ne, 4, 4, 0}, {num.Ne, -4, 4, 1}, {num.Lt, -1, 0, 1}, {num.Lt, 0, -1, 0}, {num.Lt, 3, 3, 0}, {num.Lt, least, most, 1}, {num.Le, 3, 3, 1}, {num.Le, 4, 3, 0}, {num.Le, -1, 1, 1},
	} {
		is(t, uint64(c.want), nil, nil, whole(c.a), whole(c.b), two(api.BinInt, c.bin))
		is(t, uint64(c.want), []uint64{uint64(c.b)}, []int{1, c.a}, in(1), slot(0), two(api.BinInt, c.bin))
		if c.bin == num.Eq || c.bin == num.Ne {
			is(t, uint64(c.want), nil, nil, whole(c.a), whole(c.b), two(api.BinRef, c.bin))
		}
	}
	// The opposite of the least number by -1 is it again.
	is(t, uint64(least), nil, nil, whole(least), whole(-1), quotient, neg)
	is(t, uint64(least), nil, nil, whole(least), neg, whole(1), neg, quotient)
}

// P8.1: reals at their edges, by hand; nought divides them without a trap.
func TestItemsOfTwoReals(t *testing.T) {
	one, max := bitsOf(1), bitsOf(math.MaxFloat64)
	for _, c := range []struct {
		bin        num.Op
		a, b, want uint64
	}{
		{num.Add, bitsOf(0.1), bitsOf(0.2), 0x3fd3333333333334}, {num.Add, 0, negZero, 0}, {num.Add, negZero, negZero, negZero}, {num.Add, max, max, plusInf}, {num.Add, plusInf, lessInf, num.NaN},
		{num.Sub, one, bitsOf(3), bitsOf(-2)}, {num.Sub, negZero, 0, negZero}, {num.Sub, plusInf, plusInf, num.NaN},
		{num.Mul, bitsOf(-3), 0, negZero}, {num.Mul, 0, plusInf, num.NaN}, {num.Mul, bitsOf(2), bitsOf(2.5), bitsOf(5)},
		{num.Div, one, bitsOf(4), bitsOf(0.25)}, {num.Div, one, 0, plusInf}, {num.Div, one, negZero, lessInf}, {num.Div, bitsOf(-1), 0, lessInf}, {num.Div, 0, 0, num.NaN}, {num.Div, negZero, 0, num.NaN}, {num.Div, plusInf, plusInf, num.NaN}, {num.Div, one, lessInf, negZero},
		{num.Eq, 0, negZero, 1}, {num.Ne, 0, negZero, 0}, {num.Lt, negZero, 0, 0}, {num.Le, 0, negZero, 1}, {num.Lt, lessInf, plusInf, 1}, {num.Lt, one, bitsOf(-1), 0}, {num.Lt, bitsOf(-2), bitsOf(-1), 1}, {num.Eq, plusInf, plusInf, 1},
	} {
		is(t, c.want, nil, nil, push(c.a), push(c.b), two(api.BinReal, c.bin))
		is(t, c.want, []uint64{c.b, c.a}, nil, slot(1), slot(0), two(api.BinReal, c.bin))
	}
	for _, bad := range append(unlike(), num.NaN) {
		for _, bin := range []num.Op{num.Add, num.Sub, num.Mul, num.Div} {
			is(t, num.NaN, nil, nil, push(bad), push(one), two(api.BinReal, bin))
			is(t, num.NaN, nil, nil, push(0), push(bad), two(api.BinReal, bin))
		}
		for bin, want := range map[num.Op]uint64{num.Eq: 0, num.Ne: 1, num.Lt: 0, num.Le: 0} {
			is(t, want, nil, nil, push(bad), push(bad), two(api.BinReal, bin))
		}
		// As what means something it is a row of bits, and like itself.
		is(t, 1, nil, nil, push(bad), push(bad), two(api.BinRef, num.Eq))
	}
	is(t, 0, nil, nil, push(0), push(negZero), two(api.BinRef, num.Eq))
}

// P8.1: all ops of all pairs of edges, whole numbers held against reckoning of any width.
func TestAllOpsOfEdges(t *testing.T) {
	for _, a := range edges() {
		for op := api.NegInt; op <= api.Narrow; op++ {
			held(t, nil, nil, row(push(a), one(op)))
		}
		for _, b := range edges() {
			for bin := range num.Op(9) {
				for op := api.BinInt; op <= api.BinRef; op++ {
					held(t, nil, nil, row(push(a), push(b), two(op, bin)))
				}
				if (bin != num.Div && bin != num.Rem) || b != 0 {
					is(t, wide(bin, a, b), nil, nil, push(a), push(b), two(api.BinInt, bin))
				}
			}
		}
	}
}

// wide: an op of whole numbers, without any width; it goes round at the end.
func wide(bin num.Op, a, b uint64) uint64 {
	x, y, z := big.NewInt(int64(a)), big.NewInt(int64(b)), new(big.Int)
	switch bin {
	case num.Add:
		z.Add(x, y)
	case num.Sub:
		z.Sub(x, y)
	case num.Mul:
		z.Mul(x, y)
	case num.Div:
		z.Quo(x, y)
	case num.Rem:
		z.Rem(x, y)
	default:
		c := x.Cmp(y)
		if slices.Contains(map[num.Op][]int{num.Eq: {0}, num.Ne: {-1, 1}, num.Lt: {-1}, num.Le: {-1, 0}}[bin], c) {
			z.SetInt64(1)
		}
	}
	round := new(big.Int).Lsh(big.NewInt(1), 64)
	return z.Mod(z, round).Uint64()
}

// P8.1: the stack: what was put last is taken first, the rest stays.
func TestTheStack(t *testing.T) {
	minus := two(api.BinInt, num.Sub)
	for want, items := range map[int][]api.Item{
		-4: row(whole(1), whole(2), minus, whole(3), minus),
		2:  row(whole(1), whole(2), whole(3), minus, minus),
		-8: row(whole(1), whole(2), whole(3), neg, two(api.BinInt, num.Mul), whole(3), minus, add),
		3:  row(whole(20), whole(3), quotient, whole(9), whole(6), rest, rest, whole(3), two(api.BinInt, num.Le), whole(2), add),
		55: row(whole(1), whole(2), whole(3), whole(4), whole(5), whole(6), whole(7), whole(8), whole(9), whole(10), add, add, add, add, add, add, add, add, add),
	} {
		is(t, uint64(want), nil, nil, items...)
	}
	// Real parts and whole ones, in one expression: trunc (real 7 / real 2) - (1 < 2).
	is(t, 2, nil, nil, whole(7), one(api.Widen), whole(2), one(api.Widen), two(api.BinReal, num.Div), one(api.Narrow), whole(1), whole(2), two(api.BinInt, num.Lt), minus)
	for _, items := range shapes(api.MaxItems) {
		held(t, nil, nil, items)
	}
	// As high as it may be: 32 values at a time.
	for _, items := range shapes(api.MaxItems - 1)[1:] {
		is(t, 32, nil, nil, items...)
	}
}

// P8.1: quotients and rests by nought: alone, in the middle, twice, by what is nought without showing it.
func TestByNought(t *testing.T) {
	for _, by := range row(quotient, rest) {
		for _, a := range []int{0, 1, -1, math.MaxInt, math.MinInt} {
			traps(t, nil, nil, whole(a), whole(0), by)
		}
		traps(t, []uint64{0, 7}, nil, slot(1), slot(0), by)
		traps(t, nil, nil, whole(1), in(3), by)
		traps(t, nil, []int{1, 0}, in(0), in(1), by)
		traps(t, nil, nil, whole(1), whole(5), whole(5), two(api.BinInt, num.Sub), by)
		traps(t, nil, nil, whole(1), push(bitsOf(0.5)), one(api.Narrow), by)
		traps(t, nil, nil, whole(1), push(negZero), one(api.Narrow), by)
		traps(t, nil, nil, whole(1), push(num.NaN), one(api.Narrow), by)
		traps(t, nil, nil, whole(1), whole(1), whole(2), two(api.BinRef, num.Eq), by)
		traps(t, nil, nil, whole(7), whole(0), by, neg)
		traps(t, nil, nil, whole(7), whole(0), by, whole(0), two(api.BinInt, num.Mul))
		traps(t, nil, nil, whole(3), whole(7), whole(0), by, add, one(api.Widen))
		traps(t, nil, nil, whole(0), whole(7), whole(0), by, two(api.BinInt, num.Mul))
		traps(t, nil, nil, whole(7), whole(0), by, whole(7), whole(0), by, add)
		traps(t, nil, nil, whole(7), whole(0), by, whole(0), by)
		traps(t, nil, nil, slices.Concat(row(whole(7), whole(0), by), slices.Repeat(row(neg), 61))...)
		// Just beside it.
		is(t, 0, nil, nil, whole(0), whole(1), by)
		is(t, 0, nil, nil, whole(0), push(negZero), by)
	}
	// A real nought's bits are a whole number of their own; reals, and what means something, never trap.
	is(t, plusInf, nil, nil, push(bitsOf(1)), push(0), two(api.BinReal, num.Div))
	is(t, lessInf, nil, nil, push(bitsOf(1)), push(negZero), two(api.BinReal, num.Div))
	is(t, num.NaN, nil, nil, push(0), push(0), two(api.BinReal, num.Div))
	is(t, 1, nil, nil, push(0), push(0), two(api.BinRef, num.Eq))
}

// P8.1: items that divide by nought, and have one more fault, are no expression: no trap.
func TestByNoughtInWhatIsNoExpression(t *testing.T) {
	slots, inputs := []uint64{0, 7}, []int{10, 20}
	wrong := row(one(0), one(11), one(-1), slot(2), slot(negBit), in(16), api.Item{Op: api.Push, Bin: 1}, api.Item{Op: api.Slot, Bin: 1}, api.Item{Op: api.In, Bin: 1},
		api.Item{Op: api.NegInt, N: 1}, api.Item{Op: api.Widen, Bin: 1}, api.Item{Op: api.BinInt, N: 1}, two(api.BinInt, 9), two(api.BinInt, -1), two(api.BinReal, 4), two(api.BinRef, 4), two(api.BinRef, 7))
	for _, by := range row(quotient, rest) {
		trapped := row(whole(7), whole(0), by)
		traps(t, slots, inputs, trapped...)
		traps(t, slots, inputs, slices.Concat(trapped, row(whole(1), add))...)
		traps(t, slots, inputs, slices.Concat(row(whole(1)), trapped, row(add))...)
		for _, w := range wrong {
			alone := append(slices.Repeat(row(whole(1)), formTakes(w.Op)), w)
			good(t, false, 2, slices.Concat(trapped, alone, row(add))...)
			good(t, false, 2, slices.Concat(alone, trapped, row(add))...)
		}
		good(t, false, 2, slices.Concat(trapped, row(whole(1)))...)
		good(t, false, 2, slices.Concat(row(whole(1)), trapped)...)
		good(t, false, 2, slices.Concat(trapped, row(add))...)
		good(t, false, 2, slices.Concat(trapped, row(add, whole(1)))...)
		good(t, false, 2, slices.Concat(row(neg), trapped)...)
		good(t, false, 2, slices.Concat(trapped, slices.Repeat(row(neg), 62))...)
		good(t, false, 0, whole(7), slot(0), by)
		for _, w := range wrong {
			if value, trap := calc.Eval(slots, inputs, slices.Concat(trapped, row(w))...); value != 0 || trap != api.NoTrap {
				t.Errorf("%v: %d, %d", w, value, trap)
			}
		}
	}
}

// formTakes: how many values an item of that Op takes; of none 0.
func formTakes(op int) int {
	f, _ := formOf(op)
	return f.takes
}

// P8.1: Eval counts the slots that it is given, not the room behind them.
func TestEvalCountsItsSlots(t *testing.T) {
	room := []uint64{1, 2, 3, 4}
	for many := range len(room) + 1 {
		for n := range uint64(6) {
			want := uint64(0)
			if n < uint64(many) {
				want = room[n]
			}
			if value, trap := calc.Eval(room[:many], nil, slot(n)); value != want || trap != api.NoTrap {
				t.Errorf("%d slots, Slot %d: %d, %d", many, n, value, trap)
			}
		}
	}
}
