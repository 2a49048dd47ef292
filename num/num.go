// Package num is layer 1: whole numbers, and reals with all their edges. See shared/doc/01-num.md.
package num

import "math"

// Op is what is reckoned.
type Op int

// Ops.
const (
	Add Op = iota
	Sub
	Mul
	Div
	Rem
	Eq
	Ne
	Lt
	Le
)

// NaN is the one row of bits that is no number.
const NaN = 0x7ff8000000000000

const (
	signBit = 1 << 63
	// beyond is the least real above all whole numbers: the greatest of them, 2^63 - 1, is no real itself.
	beyond = 1 << 63
)

// Int: of whole numbers, that go round; false: divided by nought.
func Int(op Op, a, b int) (int, bool) {
	switch op {
	case Add:
		return a + b, true
	case Sub:
		return a - b, true
	case Mul:
		return a * b, true
	case Div, Rem:
		return divide(op, a, b)
	}
	return truth(holds(op, a, b)), true
}

// divide leans on Go's own quotient and rest: the least number by -1 goes round there, too, and doesn't panic.
func divide(op Op, a, b int) (int, bool) {
	if b == 0 {
		return 0, false
	}
	if op == Div {
		return a / b, true
	}
	return a % b, true
}

// holds answers whether a comparison does; no other op does, so that it is told as 0.
func holds[T int | float64](op Op, a, b T) bool {
	switch op {
	case Eq:
		return a == b
	case Ne:
		return a != b
	case Lt:
		return a < b
	case Le:
		return a <= b
	}
	return false
}

func truth(b bool) int {
	if b {
		return 1
	}
	return 0
}

// Tidy: a real's bits; those of NaN, if it is no number.
func Tidy(bits uint64) uint64 {
	if math.IsNaN(math.Float64frombits(bits)) {
		return NaN
	}
	return bits
}

// Real: of reals, as bits; a comparison's answer is 1 or 0.
func Real(op Op, a, b uint64) uint64 {
	x, y := math.Float64frombits(a), math.Float64frombits(b)
	switch op {
	case Add:
		return tidyBits(x + y)
	case Sub:
		return tidyBits(x - y)
	case Mul:
		return tidyBits(x * y)
	case Div:
		return tidyBits(x / y)
	case Rem:
		return NaN
	}
	return uint64(truth(holds(op, x, y)))
}

// tidyBits is needed behind every op: which of the many rows of bits a machine answers for no number is its own affair.
func tidyBits(x float64) uint64 {
	return Tidy(math.Float64bits(x))
}

// NegReal: with the other sign.
func NegReal(bits uint64) uint64 {
	tidy := Tidy(bits)
	if tidy == NaN {
		return NaN
	}
	// Not 0 - x, which would lose the sign of nought.
	return tidy ^ signBit
}

// FromInt: the nearest real's bits.
func FromInt(n int) uint64 {
	return math.Float64bits(float64(n))
}

// Trunc: the whole number next to a real, towards nought; the ends, beyond them; 0 of no number.
func Trunc(bits uint64) int {
	x := math.Float64frombits(bits)
	// Go leaves open what a conversion answers outside the whole numbers, so it is asked for those within alone.
	switch {
	case math.IsNaN(x):
		return 0
	case x >= beyond:
		return math.MaxInt
	case x < -beyond:
		return math.MinInt
	}
	return int(x)
}
