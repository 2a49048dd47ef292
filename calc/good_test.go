package calc_test

import (
	"math"
	"slices"
	"testing"

	"padlock/api"
	"padlock/calc"
	"padlock/num"
)

var (
	neg = one(api.NegInt)
	add = two(api.BinInt, num.Add)
)

// shapes: expressions of so many items.
func shapes(n int) [][]api.Item {
	out := [][]api.Item{slices.Concat(row(push(1)), slices.Repeat(row(neg), n-1))}
	if n%2 == 0 {
		return append(out, append(shapes(n - 1)[1], neg), append(shapes(n - 1)[2], neg))
	}
	half := n / 2
	high := slices.Concat(slices.Repeat(row(push(1)), half+1), slices.Repeat(row(add), half))
	flat := slices.Concat(row(push(1)), slices.Repeat(row(push(1), add), half))
	return append(out, high, flat)
}

// P8.1: from none to one more than there may be, and many more.
func TestHowManyItems(t *testing.T) {
	good(t, false, 2)
	good(t, false, 2, row()...)
	for n := 1; n <= api.MaxItems+3; n++ {
		for _, items := range shapes(n) {
			good(t, n <= api.MaxItems, 2, items...)
		}
	}
	for _, n := range []int{127, 128, 129, 255, 256, 257, 320, 1<<16 + 1, 1<<16 + 64, 1 << 20} {
		for _, items := range shapes(n) {
			good(t, false, 2, items...)
		}
	}
	if api.MaxItems != 64 {
		t.Errorf("there may be %d", api.MaxItems)
	}
}

// P8.1: a row of 64 isn't shortened, nor is the last one of it left out.
func TestTheLastOf64(t *testing.T) {
	for _, items := range shapes(api.MaxItems) {
		good(t, false, 2, append(slices.Clone(items[:api.MaxItems-1]), push(1))...)
		good(t, false, 2, append(slices.Clone(items[:api.MaxItems-1]), one(0))...)
		good(t, false, 2, append(slices.Clone(items[:api.MaxItems-1]), api.Item{Op: api.NegInt, N: 1})...)
	}
}

// P8.1: the edges, by hand: each item that can be, and those beside it.
func TestItemsThatCanBe(t *testing.T) {
	a, b := push(1), push(2)
	for _, c := range []struct {
		want  bool
		slots int
		items []api.Item
	}{
		{true, 0, row(push(0))}, {true, 0, row(push(math.MaxUint64))}, {true, -1, row(push(5))}, {true, math.MinInt, row(push(negBit))},
		{false, 2, row(api.Item{Op: api.Push, Bin: 1})}, {false, 2, row(api.Item{Op: api.Push, Bin: -1, N: 1})},
		{true, 2, row(slot(0))}, {true, 2, row(slot(1))}, {false, 2, row(slot(2))}, {false, 2, row(slot(3))},
		{true, 1, row(slot(0))}, {false, 1, row(slot(1))}, {false, 0, row(slot(0))}, {false, 0, row(slot(1))},
		{false, -1, row(slot(0))}, {false, -1, row(slot(1))}, {false, -1, row(slot(math.MaxInt))}, {false, math.MinInt, row(slot(0))}, {false, math.MinInt, row(slot(5))},
		{true, 64, row(slot(63))}, {false, 64, row(slot(64))}, {true, 65, row(slot(64))}, {true, 1000, row(slot(999))},
		{true, math.MaxInt, row(slot(math.MaxInt - 1))}, {false, math.MaxInt, row(slot(math.MaxInt))},
		{false, math.MaxInt, row(slot(negBit))}, {false, 2, row(slot(negBit))}, {false, 2, row(slot(negBit + 1))}, {false, 2, row(slot(math.MaxUint64))}, {false, 2, row(slot(1 << 32))},
		{false, 2, row(api.Item{Op: api.Slot, Bin: 1})}, {false, 2, row(api.Item{Op: api.Slot, Bin: -1, N: 1})},
		{true, 0, row(in(0))}, {true, 0, row(in(15))}, {false, 0, row(in(16))}, {false, 99, row(in(17))}, {false, 99, row(in(negBit))}, {false, 99, row(in(math.MaxUint64))}, {false, 99, row(in(1<<32 + 1))},
		{false, 2, row(api.Item{Op: api.In, Bin: 1})}, {false, 2, row(api.Item{Op: api.In, Bin: 5, N: 1})},
		{true, 0, row(a, one(api.NegInt))}, {true, 0, row(a, one(api.NegReal))}, {true, 0, row(a, one(api.Widen))}, {true, 0, row(a, one(api.Narrow))},
		{true, 0, row(a, b, two(api.BinInt, 0))}, {true, 0, row(a, b, two(api.BinInt, 8))}, {true, 0, row(a, b, two(api.BinInt, 4))},
		{false, 0, row(a, b, two(api.BinInt, -1))}, {false, 0, row(a, b, two(api.BinInt, 9))}, {false, 0, row(a, b, two(api.BinInt, 1<<32))},
		{true, 0, row(a, b, two(api.BinReal, 3))}, {false, 0, row(a, b, two(api.BinReal, 4))}, {true, 0, row(a, b, two(api.BinReal, 5))},
		{false, 0, row(a, b, two(api.BinReal, -1))}, {true, 0, row(a, b, two(api.BinReal, 0))}, {true, 0, row(a, b, two(api.BinReal, 8))}, {false, 0, row(a, b, two(api.BinReal, 9))},
		{false, 0, row(a, b, two(api.BinRef, 4))}, {true, 0, row(a, b, two(api.BinRef, 5))}, {true, 0, row(a, b, two(api.BinRef, 6))}, {false, 0, row(a, b, two(api.BinRef, 7))},
		{false, 0, row(a, b, two(api.BinRef, 0))}, {false, 0, row(a, b, two(api.BinRef, 8))}, {false, 0, row(a, b, two(api.BinRef, -1))},
		{false, 9, row(one(0))}, {false, 9, row(one(11))}, {false, 9, row(one(-1))}, {false, 9, row(one(12))}, {false, 9, row(a, one(11))}, {false, 9, row(a, b, one(11))}, {false, 9, row(a, one(0))},
	} {
		good(t, c.want, c.slots, c.items...)
	}
}

// P8.1: each Op, Bin and N, and so many slots, where as many values are there as it takes, alone and with items around it.
func TestEveryItem(t *testing.T) {
	ops := []int{math.MinInt, -256, -1, 0, 1, 2, 3, 4, 5, 6, 7, 8, 9, 10, 11, 12, 13, 17, 128, 256 + 1, 256 + 8, 1<<32 + 1, 1<<32 + 8, math.MaxInt}
	bins := []int{math.MinInt, -256, -2, -1, 0, 1, 2, 3, 4, 5, 6, 7, 8, 9, 10, 128, 256, 256 + 5, 1 << 32, 1<<32 + 5, math.MaxInt}
	ns := []uint64{0, 1, 2, 3, 14, 15, 16, 17, 63, 64, 65, 255, 256, 1 << 32, negBit - 2, negBit - 1, negBit, negBit + 1, math.MaxUint64}
	manys := []int{math.MinInt, -65, -1, 0, 1, 2, 3, 15, 16, 17, 64, 65, 256, math.MaxInt}
	for _, op := range ops {
		f, known := formOf(op)
		for _, bin := range bins {
			for _, n := range ns {
				item := api.Item{Op: op, Bin: bin, N: n}
				for _, slots := range manys {
					everyPlace(t, known && f.allows(slots, item), f.takes, slots, item)
				}
			}
		}
	}
}

// everyPlace: that an item is right, or wrong, wherever it stands.
func everyPlace(t *testing.T, want bool, takes, slots int, item api.Item) {
	t.Helper()
	values := slices.Repeat(row(push(1)), takes)
	alone := append(slices.Clone(values), item)
	for _, items := range [][]api.Item{
		alone, append(slices.Clone(alone), neg), slices.Concat(alone, row(push(3), add)), slices.Concat(row(push(3)), alone, row(add)), slices.Concat(row(push(3)), alone, row(neg, add, neg)),
	} {
		if got := calc.Good(slots, items...); got != want {
			t.Errorf("Good(%d, %v): %v", slots, items, got)
		}
	}
}

// P8.1: N and Bin are 0 where they aren't named.
func TestWhatIsNotNamedIsZero(t *testing.T) {
	for op := 1; op <= 10; op++ {
		f, _ := formOf(op)
		values := slices.Repeat(row(push(1)), f.takes)
		bin := f.bins[0]
		good(t, true, 2, append(values, api.Item{Op: op, Bin: bin})...)
		for _, other := range []uint64{1, 2, 5, negBit, math.MaxUint64} {
			if f.takes > 0 {
				good(t, false, 2, append(values, api.Item{Op: op, Bin: bin, N: other})...)
			}
			if len(f.bins) == 1 {
				good(t, false, 2, append(values, api.Item{Op: op, Bin: int(other)})...)
			}
		}
	}
}

// P8.1: values that are taken must be there, ahead of the item; one is left at the end.
func TestHowManyValues(t *testing.T) {
	a, b, c := push(1), push(2), push(3)
	for _, items := range [][]api.Item{
		row(neg), row(one(api.NegReal)), row(one(api.Widen)), row(one(api.Narrow)), row(neg, a), row(neg, neg), row(neg, a, neg), row(neg, a, b, add),
		row(add), row(two(api.BinReal, 0)), row(two(api.BinRef, 5)), row(a, add), row(a, two(api.BinReal, 0)), row(a, two(api.BinRef, 5)),
		row(add, a), row(add, a, b), row(add, a, b, c), row(a, add, b), row(a, add, b, c), row(a, add, b, add), row(a, add, b, neg),
		row(a, neg, add), row(a, neg, add, b), row(a, b, add, add), row(a, b, add, add, c), row(a, b, add, add, c, add), row(a, add, neg),
		row(a, b), row(a, b, c), row(a, b, neg), row(a, neg, b), row(a, neg, b, neg), row(a, b, add, c), row(a, b, c, add), row(slot(0), slot(1)), row(in(0), in(1)), row(a, b, c, neg, add),
	} {
		good(t, false, 2, items...)
	}
	for _, items := range [][]api.Item{
		row(a), row(a, neg), row(a, neg, neg), row(a, b, add), row(a, neg, b, add), row(a, b, neg, add), row(a, b, add, neg), row(a, b, add, c, add), row(a, b, c, add, add),
	} {
		good(t, true, 2, items...)
	}
}

// P8.1: all rows of items that take none, one and two values, up to some length.
func TestAllShapes(t *testing.T) {
	kinds := row(push(3), neg, two(api.BinInt, num.Sub))
	var grow func(items []api.Item, more int)
	grow = func(items []api.Item, more int) {
		held(t, nil, nil, items)
		for _, k := range kinds {
			if more > 0 {
				grow(append(items, k), more-1)
			}
		}
	}
	grow(nil, 9)
}
