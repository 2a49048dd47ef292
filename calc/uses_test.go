package calc_test

import (
	"math"
	"slices"
	"testing"

	"padlock/api"
	"padlock/calc"
	"padlock/num"
)

// P8.1: the slots that are named, as they stand there, of expressions and of others.
func TestUses(t *testing.T) {
	for i, c := range []struct {
		want  []int
		items []api.Item
	}{
		{nil, nil}, {nil, row()}, {nil, row(push(3))}, {nil, row(in(3))}, {nil, row(push(1), push(2), add, neg)},
		{[]int{0}, row(slot(0))}, {[]int{5}, row(slot(5))}, {[]int{3, 1}, row(push(1), slot(3), slot(1), add)}, {[]int{1, 3}, row(slot(1), slot(3), add)},
		{[]int{2, 2}, row(slot(2), slot(2), add)}, {[]int{2, 1, 2, 0}, row(slot(2), slot(1), in(9), push(7), slot(2), slot(0))},
		{[]int{63, 64, 1000}, row(slot(63), slot(64), slot(1000))}, {[]int{4}, row(add, one(0), slot(4), one(11), neg)},
		{[]int{math.MaxInt, math.MinInt, math.MinInt + 1, -1}, row(slot(negBit-1), slot(negBit), slot(negBit+1), slot(math.MaxUint64))},
		{nil, row(api.Item{Op: api.NegInt, N: 2}, api.Item{Op: api.BinRef, Bin: api.Slot, N: 2}, api.Item{Op: 11, Bin: 2, N: 2}, api.Item{Bin: 2})},
		{[]int{0, 1}, row(slot(0), slot(1), two(api.BinInt, num.Div))},
	} {
		if got := calc.Uses(c.items...); !slices.Equal(got, c.want) {
			t.Errorf("%d: %d", i, got)
		}
	}
	// Of more items than an expression may have, all are told.
	for _, n := range []int{64, 65, 66, 1000} {
		if got := calc.Uses(slices.Repeat(row(slot(1), slot(0)), n)...); !slices.Equal(got, slices.Repeat([]int{1, 0}, n)) {
			t.Errorf("%d: %d", n, got)
		}
	}
}

// P8.1, rule 3: what is answered is new memory each time.
func TestUsesIsNewMemory(t *testing.T) {
	items := row(slot(3), slot(1), add)
	first := calc.Uses(items...)
	second := calc.Uses(items...)
	first[0], first = 99, append(first, 98)
	if third := calc.Uses(items...); !slices.Equal(second, []int{3, 1}) || !slices.Equal(third, []int{3, 1}) {
		t.Errorf("%d, %d, %d", first, second, third)
	}
}

// P8.1, rule 3: what is handed in isn't changed, nor is the room behind it; the answers are the same again.
func TestNothingHandedInIsChanged(t *testing.T) {
	items := row(slot(1), in(0), add, push(2), slot(0), two(api.BinInt, num.Mul), add, push(9), push(8), one(0))
	slots, inputs := []uint64{5, 6, 7, 8}, []int{1, 2, 3, 4}
	items0, slots0, inputs0 := slices.Clone(items), slices.Clone(slots), slices.Clone(inputs)
	for n := range len(items) + 1 {
		ok := calc.Good(2, items[:n]...)
		value, trap := calc.Eval(slots[:2], inputs[:2], items[:n]...)
		used := calc.Uses(items[:n]...)
		if calc.Good(2, items[:n]...) != ok || !slices.Equal(calc.Uses(items[:n]...), used) {
			t.Errorf("%d items: another answer", n)
		}
		if v, e := calc.Eval(slots[:2], inputs[:2], items[:n]...); v != value || e != trap {
			t.Errorf("%d items: %d, %d; then %d, %d", n, value, trap, v, e)
		}
	}
	if !slices.Equal(items, items0) || !slices.Equal(slots, slots0) || !slices.Equal(inputs, inputs0) {
		t.Errorf("%v, %d, %d", items, slots, inputs)
	}
}
