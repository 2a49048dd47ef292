package calc_test

import (
	"math"
	"slices"
	"testing"

	"padlock/api"
	"padlock/calc"
	"padlock/num"
)

const (
	negBit  = uint64(1) << 63
	negZero = negBit
	plusInf = uint64(0x7ff0000000000000)
	lessInf = uint64(0xfff0000000000000)
)

func row(items ...api.Item) []api.Item { return items }

func push(n uint64) api.Item { return api.Item{Op: api.Push, N: n} }

// whole: a Push of a whole number, which stands there with its sign.
func whole(n int) api.Item { return push(uint64(n)) }

func slot(n uint64) api.Item { return api.Item{Op: api.Slot, N: n} }

func in(n uint64) api.Item { return api.Item{Op: api.In, N: n} }

func one(op int) api.Item { return api.Item{Op: op} }

func two(op int, bin num.Op) api.Item { return api.Item{Op: op, Bin: int(bin)} }

func bitsOf(x float64) uint64 { return math.Float64bits(x) }

// unlike: no numbers of all kinds, but the one that is answered.
func unlike() []uint64 {
	return []uint64{0xfff8000000000000, 0x7ff0000000000001, 0xfff0000000000001, 0x7ff8000000000001, 0x7fffffffffffffff, 0xffffffffffffffff}
}

// edges: rows of bits at the ends of whole numbers, and of reals.
func edges() []uint64 {
	out := append(unlike(), num.NaN, plusInf, lessInf, 0, negZero, 1, 2, 3, 7, negBit+1, negBit-1, 1<<53, 1<<53+1,
		bitsOf(1), bitsOf(-1), bitsOf(0.5), bitsOf(-0.5), bitsOf(2.9), bitsOf(-2.9), bitsOf(math.MaxFloat64), bitsOf(-1<<63), bitsOf(1<<63))
	for _, n := range []int{-1, -2, -3, -7, math.MaxInt - 1} {
		out = append(out, uint64(n))
	}
	return out
}

// good: that a row is an expression with so many slots, just if it is wanted, and that, if it is none, Eval says so.
func good(t *testing.T, want bool, slots int, items ...api.Item) {
	t.Helper()
	if got := calc.Good(slots, items...); got != want {
		t.Errorf("Good(%d, %v): %v", slots, items, got)
	}
	if slots < 0 || slots > 1000 {
		return
	}
	if value, trap := calc.Eval(make([]uint64, slots), nil, items...); !want && (value != 0 || trap != api.NoTrap) {
		t.Errorf("Eval(%d slots, %v): %x, %d", slots, items, value, trap)
	}
}

// is: that a row is an expression of that value, with these slots and inputs.
func is(t *testing.T, want uint64, slots []uint64, inputs []int, items ...api.Item) {
	t.Helper()
	good(t, true, len(slots), items...)
	if got, trap := calc.Eval(slots, inputs, items...); got != want || trap != api.NoTrap {
		t.Errorf("Eval(%x, %d, %v): %x, %d; want %x", slots, inputs, items, got, trap, want)
	}
}

// traps: that a row is an expression which divides by nought.
func traps(t *testing.T, slots []uint64, inputs []int, items ...api.Item) {
	t.Helper()
	good(t, true, len(slots), items...)
	if got, trap := calc.Eval(slots, inputs, items...); got != 0 || trap != api.TrapDivision {
		t.Errorf("Eval(%x, %d, %v): %x, %d", slots, inputs, items, got, trap)
	}
}

// form: a line of the chapter's table: how many values an item takes, up to which N and which Bins it can be.
type form struct {
	takes int
	most  func(slots int) uint64 // N is below it
	bins  []int
}

// formOf: the line of an Op; false: there is none.
func formOf(op int) (form, bool) {
	upTo := func(n uint64) func(int) uint64 { return func(int) uint64 { return n } }
	zero, ops := []int{0}, []int{0, 1, 2, 3, 4, 5, 6, 7, 8}
	f, ok := map[int]form{
		1: {0, nil, zero},
		2: {0, func(slots int) uint64 { return uint64(max(slots, 0)) }, zero},
		3: {0, upTo(16), zero},
		4: {1, upTo(1), zero}, 5: {1, upTo(1), zero}, 6: {1, upTo(1), zero}, 7: {1, upTo(1), zero},
		8: {2, upTo(1), ops}, 9: {2, upTo(1), slices.Delete(slices.Clone(ops), 4, 5)}, 10: {2, upTo(1), []int{5, 6}},
	}[op]
	return f, ok
}

// allows: whether an item of that form can be.
func (f form) allows(slots int, item api.Item) bool {
	return slices.Contains(f.bins, item.Bin) && (f.most == nil || item.N < f.most(slots))
}

// part: an item, and the parts whose values it takes, the lower one first.
type part struct {
	item api.Item
	kids []part
}

// partAt: the part that ends with a row, and what of the row stands ahead of it; false: the row has none.
func partAt(slots int, items []api.Item) (part, []api.Item, bool) {
	if len(items) == 0 {
		return part{}, nil, false
	}
	item, ahead := items[len(items)-1], items[:len(items)-1]
	f, ok := formOf(item.Op)
	if !ok || !f.allows(slots, item) {
		return part{}, nil, false
	}
	out := part{item: item}
	for range f.takes {
		var kid part
		if kid, ahead, ok = partAt(slots, ahead); !ok {
			return part{}, nil, false
		}
		out.kids = slices.Insert(out.kids, 0, kid)
	}
	return out, ahead, true
}

// partOf: the one part that a row is; false: it is no expression.
func partOf(slots int, items []api.Item) (part, bool) {
	if len(items) > 64 {
		return part{}, false
	}
	p, ahead, ok := partAt(slots, items)
	return p, ok && len(ahead) == 0
}

// value: what a part comes to, its kids first; false: it divides by nought.
func (p part) value(slots []uint64, inputs []int) (uint64, bool) {
	var of [2]uint64
	for i, kid := range p.kids {
		v, ok := kid.value(slots, inputs)
		if !ok {
			return 0, false
		}
		of[i] = v
	}
	op := num.Op(p.item.Bin)
	switch p.item.Op {
	case api.Push:
		return p.item.N, true
	case api.Slot:
		return slots[p.item.N], true
	case api.In:
		return uint64(append(slices.Clone(inputs), make([]int, 16)...)[p.item.N]), true
	case api.NegInt:
		n, _ := num.Int(num.Sub, 0, int(of[0]))
		return uint64(n), true
	case api.NegReal:
		return num.NegReal(of[0]), true
	case api.Widen:
		return num.FromInt(int(of[0])), true
	case api.Narrow:
		return uint64(num.Trunc(of[0])), true
	case api.BinReal:
		return num.Real(op, of[0], of[1]), true
	}
	n, ok := num.Int(op, int(of[0]), int(of[1]))
	return uint64(n), ok
}

// wanted: what Good and Eval must answer.
func wanted(slots []uint64, inputs []int, items []api.Item) (bool, uint64, api.Trap) {
	p, ok := partOf(len(slots), items)
	if !ok {
		return false, 0, api.NoTrap
	}
	v, ok := p.value(slots, inputs)
	if !ok {
		return true, 0, api.TrapDivision
	}
	return true, v, api.NoTrap
}

// held: that Good and Eval answer what they must.
func held(t *testing.T, slots []uint64, inputs []int, items []api.Item) {
	t.Helper()
	ok, value, trap := wanted(slots, inputs, items)
	if got := calc.Good(len(slots), items...); got != ok {
		t.Errorf("Good(%d, %v): %v", len(slots), items, got)
	}
	if v, e := calc.Eval(slots, inputs, items...); v != value || e != trap {
		t.Errorf("Eval(%x, %d, %v): %x, %d; want %x, %d", slots, inputs, items, v, e, value, trap)
	}
}
