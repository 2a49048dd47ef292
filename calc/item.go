package calc

import (
	"padlock/api"
	"padlock/num"
)

// takes answers how many values an item takes from the stack.
func takes(op int) int {
	switch op {
	case api.NegInt, api.NegReal, api.Widen, api.Narrow:
		return 1
	case api.BinInt, api.BinReal, api.BinRef:
		return 2
	}
	return 0
}

// canBe answers whether an item can be, whatever stands ahead of it.
func canBe(slots int, item api.Item) bool {
	switch item.Op {
	case api.Push:
		return item.Bin == 0
	case api.Slot:
		// N has no sign: fewer slots than none mustn't look like many.
		return item.Bin == 0 && slots > 0 && item.N < uint64(slots)
	case api.In:
		return item.Bin == 0 && item.N < api.MaxInput
	case api.NegInt, api.NegReal, api.Widen, api.Narrow:
		return item.Bin == 0 && item.N == 0
	case api.BinInt, api.BinReal, api.BinRef:
		return item.N == 0 && canJoin(item.Op, num.Op(item.Bin))
	}
	return false
}

// canJoin answers whether an item of two values can have a Bin: whole numbers any, reals no rest, and what means something is only the same, or not.
func canJoin(op int, bin num.Op) bool {
	switch op {
	case api.BinReal:
		return bin >= num.Add && bin <= num.Le && bin != num.Rem
	case api.BinRef:
		return bin == num.Eq || bin == num.Ne
	}
	return bin >= num.Add && bin <= num.Le
}

// reckon answers what comes for the values that an item of an expression takes, the lower one first; not ok: divided by nought.
func reckon(item api.Item, slots []uint64, inputs []int, taken ...uint64) (uint64, bool) {
	switch len(taken) {
	case 0:
		return fetch(item, slots, inputs), true
	case 1:
		return turn(item.Op, taken[0]), true
	}
	return join(item, taken[0], taken[1])
}

// fetch answers the value of an item that takes none.
func fetch(item api.Item, slots []uint64, inputs []int) uint64 {
	switch item.Op {
	case api.Slot:
		return slots[item.N]
	case api.In:
		if item.N < uint64(len(inputs)) {
			return uint64(inputs[item.N])
		}
		return 0
	}
	return item.N
}

// turn answers the value of an item that takes one.
func turn(op int, value uint64) uint64 {
	switch op {
	case api.NegReal:
		return num.NegReal(value)
	case api.Widen:
		return num.FromInt(int(value))
	case api.Narrow:
		return uint64(num.Trunc(value))
	}
	return -value
}

// join answers the value of an item that takes two; not ok: divided by nought.
func join(item api.Item, lower, upper uint64) (uint64, bool) {
	op := num.Op(item.Bin)
	if item.Op == api.BinReal {
		return num.Real(op, lower, upper), true
	}
	value, ok := num.Int(op, int(lower), int(upper))
	return uint64(value), ok
}
