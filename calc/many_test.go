package calc_test

import (
	"math/rand"
	"slices"
	"testing"

	"padlock/api"
	"padlock/calc"
	"padlock/num"
)

// maker: rows of items, slots and inputs by chance, the same ones each time.
type maker struct{ *rand.Rand }

func made(seed int64) maker { return maker{rand.New(rand.NewSource(seed))} }

// bits: small numbers, edges, and any.
func (m maker) bits() uint64 {
	switch m.Intn(4) {
	case 0:
		return uint64(m.Intn(7) - 3)
	case 1:
		return bitsOf(float64(m.Intn(9)-4) / 2)
	case 2:
		return edges()[m.Intn(len(edges()))]
	}
	return m.Uint64()
}

func (m maker) slots(n int) []uint64 {
	out := make([]uint64, n)
	for i := range out {
		out[i] = m.bits()
	}
	return out
}

func (m maker) inputs(n int) []int {
	out := make([]int, n)
	for i := range out {
		out[i] = int(m.bits())
	}
	return out
}

// expr: an expression of at most that many items (at least one), that names some of the slots and inputs.
func (m maker) expr(slots, most int) []api.Item {
	switch k := m.Intn(8); {
	case most >= 3 && k < 5:
		left := 1 + m.Intn(most-2)
		if m.Intn(2) == 0 {
			left = most / 2
		}
		lower := m.expr(slots, left)
		upper := m.expr(slots, most-1-len(lower))
		return slices.Concat(lower, upper, row(m.binary()))
	case most >= 2 && k < 7:
		return append(m.expr(slots, most-1), one(api.NegInt+m.Intn(4)))
	}
	switch k := m.Intn(3); {
	case k == 0 && slots > 0:
		return row(slot(uint64(m.Intn(slots))))
	case k == 1:
		return row(in(uint64(m.Intn(api.MaxInput))))
	}
	return row(push(m.bits()))
}

// binary: an item of two values that can be.
func (m maker) binary() api.Item {
	switch m.Intn(4) {
	case 0:
		bin := num.Op(m.Intn(8))
		if bin >= num.Rem {
			bin++
		}
		return two(api.BinReal, bin)
	case 1:
		return two(api.BinRef, num.Eq+num.Op(m.Intn(2)))
	}
	return two(api.BinInt, num.Op(m.Intn(9)))
}

// spoiled: a row with one thing that is otherwise: an item's part, or one more, or one fewer.
func (m maker) spoiled(items []api.Item) []api.Item {
	out := slices.Clone(items)
	at := m.Intn(len(out))
	switch m.Intn(6) {
	case 0:
		out[at].Op = m.Intn(14) - 1
	case 1:
		out[at].Bin = m.Intn(12) - 1
	case 2:
		out[at].N = m.bits()
	case 3:
		return slices.Delete(out, at, at+1)
	case 4:
		other := m.Intn(len(out))
		out[at], out[other] = out[other], out[at]
	default:
		return slices.Insert(out, at, out[m.Intn(len(out))])
	}
	return out
}

// P8.1: expressions by chance, and rows like them with something changed, held against another telling.
func TestManyRows(t *testing.T) {
	m := made(8)
	var rights, wrongs, trapped int
	for range 60000 {
		slots, inputs := m.slots(m.Intn(6)), m.inputs(m.Intn(20))
		items := m.expr(len(slots), 1+m.Intn(api.MaxItems))
		for range m.Intn(3) {
			items = m.spoiled(append(items, push(0)))
		}
		held(t, slots, inputs, items)
		ok, _, trap := wanted(slots, inputs, items)
		switch {
		case !ok:
			wrongs++
		case trap != api.NoTrap:
			trapped++
		default:
			rights++
		}
	}
	if min(rights, wrongs, trapped) < 2000 {
		t.Errorf("%d values, %d none, %d traps: too few of one", rights, wrongs, trapped)
	}
}

// P8.1: any items at all: each call ends, and Good, Eval and Uses answer what they must.
func TestAnyItems(t *testing.T) {
	m := made(81)
	for range 20000 {
		items := make([]api.Item, m.Intn(80))
		var used []int
		for i := range items {
			items[i] = api.Item{Op: m.Intn(13) - 1, Bin: max(0, m.Intn(20)-10), N: uint64(max(0, m.Intn(20)-10))}
			if m.Intn(20) == 0 {
				items[i] = api.Item{Op: int(m.bits()), Bin: int(m.bits()), N: m.bits()}
			}
			if items[i].Op == api.Slot {
				used = append(used, int(items[i].N))
			}
		}
		held(t, m.slots(m.Intn(9)), m.inputs(m.Intn(20)), items)
		if got := calc.Uses(items...); !slices.Equal(got, used) {
			t.Errorf("Uses(%v): %d", items, got)
		}
	}
}

// named: which slots, and which inputs, a row names.
func named(items []api.Item) (slots, inputs [api.MaxSlots]bool) {
	for _, item := range items {
		switch item.Op {
		case api.Slot:
			slots[item.N] = true
		case api.In:
			inputs[item.N] = true
		}
	}
	return slots, inputs
}

// otherSlots: as many slots or more, or fewer of those behind the last one that is named, with other values but where they are named.
func (m maker) otherSlots(slots []uint64, kept [api.MaxSlots]bool) []uint64 {
	last := len(slots)
	for last > 0 && !kept[last-1] {
		last--
	}
	out := m.slots(last + m.Intn(10))
	for i := range out {
		if kept[i] {
			out[i] = slots[i]
		} else if i < len(slots) && out[i] == slots[i] {
			out[i]++
		}
	}
	return out
}

// otherInputs: all inputs that may be, and more, with other values but where they are named; one that there wasn't is 0.
func (m maker) otherInputs(inputs []int, kept [api.MaxSlots]bool) []int {
	out := m.inputs(api.MaxInput + m.Intn(4))
	for i := range out {
		was := 0
		if i < len(inputs) {
			was = inputs[i]
		}
		if kept[i] {
			out[i] = was
		} else if out[i] == was {
			out[i]++
		}
	}
	return out
}

// P8.2: the value of an expression, and its trap, stay, whatever all other slots and inputs are, and however many.
func TestOnlyWhatIsNamedCounts(t *testing.T) {
	m := made(82)
	for range 20000 {
		slots, inputs := m.slots(m.Intn(20)), m.inputs(m.Intn(api.MaxInput+3))
		items := m.expr(len(slots), 1+m.Intn(20))
		keptSlots, keptInputs := named(items)
		value, trap := calc.Eval(slots, inputs, items...)
		for range 3 {
			slots2, inputs2 := m.otherSlots(slots, keptSlots), m.otherInputs(inputs, keptInputs)
			if !calc.Good(len(slots2), items...) {
				t.Fatalf("Good(%d, %v): false", len(slots2), items)
			}
			if v, e := calc.Eval(slots2, inputs2, items...); v != value || e != trap {
				t.Fatalf("%v: %x, %d; with other slots and inputs %x, %d", items, value, trap, v, e)
			}
		}
	}
}

// P8.2: the slots on which an expression's value hangs are among those that Uses answers, and each of a sum's counts.
func TestUsesAreWhatCounts(t *testing.T) {
	m := made(83)
	for range 3000 {
		slots := m.slots(1 + m.Intn(12))
		items := m.expr(len(slots), 1+m.Intn(16))
		used := calc.Uses(items...)
		value, trap := calc.Eval(slots, nil, items...)
		for i := range slots {
			other := slices.Clone(slots)
			other[i] ^= 1 << m.Intn(64)
			if v, e := calc.Eval(other, nil, items...); (v != value || e != trap) && !slices.Contains(used, i) {
				t.Fatalf("%v: the slot %d counts, not %d", items, i, used)
			}
		}
	}
	slots := m.slots(32)
	sum := row(slot(0))
	for i := range uint64(31) {
		sum = append(sum, slot(i+1), add)
	}
	value, _ := calc.Eval(slots, nil, sum...)
	for i := range slots {
		slots[i] += 5
		if v, trap := calc.Eval(slots, nil, sum...); v != value+5 || trap != api.NoTrap {
			t.Errorf("the slot %d doesn't count", i)
		}
		slots[i] -= 5
	}
}
