package num_test

import (
	"math"
	"math/big"
	"testing"

	"padlock/num"
)

const (
	two53   = 1 << 53
	negBit  = uint64(1) << 63
	plusInf = uint64(0x7ff0000000000000)
	lessInf = uint64(0xfff0000000000000)
	negZero = negBit
)

var allOps = []num.Op{num.Add, num.Sub, num.Mul, num.Div, num.Rem, num.Eq, num.Ne, num.Lt, num.Le}

// otherOps: those just beside the ops, and those far away.
var otherOps = []num.Op{-1, 9, 10, 50, 99, -9, 256, math.MaxInt, math.MinInt}

func bitsOf(x float64) uint64 { return math.Float64bits(x) }

// edgeInts: noughts, ends, halves of the width, and what lies just beside them.
func edgeInts() []int {
	var out []int
	for _, n := range []int{0, 7, 10, 100, 1 << 31, 1 << 32, 1 << 52, two53, 1 << 54, 1 << 62, math.MaxInt - 1, 3037000499} {
		for d := -2; d <= 2; d++ {
			out = append(out, n+d, -(n + d))
		}
	}
	return append(out, math.MinInt)
}

// spread answers n words that look like nothing, the same ones each time.
func spread(n int) []uint64 {
	out := make([]uint64, n)
	x := uint64(0x9e3779b97f4a7c15)
	for i := range out {
		x ^= x << 13
		x ^= x >> 7
		x ^= x << 17
		out[i] = x
	}
	return out
}

// noNumbers: rows of bits that are no number, quiet or not, of both signs.
func noNumbers() []uint64 {
	return []uint64{num.NaN, 0xfff8000000000000, 0x7ff0000000000001, 0xfff0000000000001,
		0x7ff7ffffffffffff, 0x7ff8000000000001, 0x7fffffffffffffff, 0xffffffffffffffff, 0xfff8dead0000beef, 0x7ff4000000000000}
}

// ascending: numbers, each greater than the one ahead of it.
func ascending() []uint64 {
	up := []float64{math.SmallestNonzeroFloat64, 2 * math.SmallestNonzeroFloat64, 0x1p-1022 - 0x1p-1074, 0x1p-1022, 1e-9,
		0.1, 0.25, 0.5, math.Nextafter(0.5, 1), math.Nextafter(1, 0), 1, math.Nextafter(1, 2), 1.5, 2, 2.9, 3, 7, 1e9,
		two53 - 1, two53, two53 + 2, math.Nextafter(1<<62, 0), 1 << 62, math.Nextafter(1<<63, 0), 1 << 63,
		math.Nextafter(1<<63, math.Inf(1)), 1 << 64, 1e300, math.Nextafter(math.MaxFloat64, 0), math.MaxFloat64, math.Inf(1)}
	var out []uint64
	for i := range up {
		out = append(out, bitsOf(-up[len(up)-1-i]))
	}
	out = append(out, 0)
	for _, x := range up {
		out = append(out, bitsOf(x))
	}
	return out
}

func numbers() []uint64 { return append(ascending(), negZero) }

// P1.1

func TestOpsCountOnAndNaNIsTheOneRow(t *testing.T) {
	for i, op := range allOps {
		if int(op) != i {
			t.Errorf("op %d is %d", i, op)
		}
	}
	if uint64(num.NaN) != 0x7ff8<<48 {
		t.Errorf("NaN is %x", uint64(num.NaN))
	}
}

// wantInt reckons without any width, and goes round at the end.
func wantInt(op num.Op, a, b int) (int, bool) {
	x, y, z := big.NewInt(int64(a)), big.NewInt(int64(b)), new(big.Int)
	switch op {
	case num.Add:
		z.Add(x, y)
	case num.Sub:
		z.Sub(x, y)
	case num.Mul:
		z.Mul(x, y)
	case num.Div, num.Rem:
		if b == 0 {
			return 0, false
		}
		rest := new(big.Int)
		z.QuoRem(x, y, rest)
		if op == num.Rem {
			z = rest
		}
	default:
		c := x.Cmp(y)
		if op == num.Eq && c == 0 || op == num.Ne && c != 0 || op == num.Lt && c < 0 || op == num.Le && c <= 0 {
			z.SetInt64(1)
		}
	}
	z.And(z, new(big.Int).SetUint64(math.MaxUint64))
	return int(z.Uint64()), true
}

func TestIntOfAllOps(t *testing.T) {
	ns := edgeInts()
	for _, w := range spread(40) {
		ns = append(ns, int(w), int(w>>40))
	}
	for _, op := range allOps {
		for _, a := range ns {
			for _, b := range ns {
				n, ok := num.Int(op, a, b)
				if want, wantOK := wantInt(op, a, b); n != want || ok != wantOK {
					t.Fatalf("Int(%d, %d, %d): %d, %v; want %d, %v", op, a, b, n, ok, want, wantOK)
				}
			}
		}
	}
}

func TestIntAtTheEdges(t *testing.T) {
	for _, c := range []struct {
		op      num.Op
		a, b, n int
		ok      bool
	}{
		{num.Add, math.MaxInt, 1, math.MinInt, true},
		{num.Add, math.MaxInt, 0, math.MaxInt, true},
		{num.Add, math.MinInt, -1, math.MaxInt, true},
		{num.Sub, math.MinInt, 1, math.MaxInt, true},
		{num.Sub, 0, math.MinInt, math.MinInt, true},
		{num.Mul, math.MaxInt, 2, -2, true},
		{num.Mul, math.MinInt, -1, math.MinInt, true},
		{num.Mul, 1 << 32, 1 << 32, 0, true},
		{num.Mul, 1 << 32, 1 << 31, math.MinInt, true},
		{num.Div, 7, 2, 3, true},
		{num.Div, -7, 2, -3, true},
		{num.Div, 7, -2, -3, true},
		{num.Div, -7, -2, 3, true},
		{num.Div, math.MinInt, -1, math.MinInt, true},
		{num.Div, math.MinInt + 1, -1, math.MaxInt, true},
		{num.Div, math.MinInt, 1, math.MinInt, true},
		{num.Div, 0, 0, 0, false},
		{num.Div, math.MinInt, 0, 0, false},
		{num.Rem, 7, 2, 1, true},
		{num.Rem, -7, 2, -1, true},
		{num.Rem, 7, -2, 1, true},
		{num.Rem, -7, -2, -1, true},
		{num.Rem, math.MinInt, -1, 0, true},
		{num.Rem, math.MinInt, math.MaxInt, -1, true},
		{num.Rem, 0, 0, 0, false},
		{num.Rem, math.MaxInt, 0, 0, false},
		{num.Lt, math.MinInt, math.MaxInt, 1, true},
		{num.Lt, math.MaxInt, math.MinInt, 0, true},
		{num.Le, math.MinInt, math.MinInt, 1, true},
		{num.Eq, two53, two53 + 1, 0, true},
		{num.Ne, two53, two53 + 1, 1, true},
	} {
		if n, ok := num.Int(c.op, c.a, c.b); n != c.n || ok != c.ok {
			t.Errorf("%+v: %d, %v", c, n, ok)
		}
	}
}

func TestIntOfOtherOps(t *testing.T) {
	for _, op := range otherOps {
		for _, a := range []int{0, 1, -1, math.MaxInt, math.MinInt} {
			for _, b := range []int{0, 1, -1, math.MaxInt, math.MinInt} {
				if n, ok := num.Int(op, a, b); n != 0 || !ok {
					t.Errorf("Int(%d, %d, %d): %d, %v", op, a, b, n, ok)
				}
			}
		}
	}
}

func TestTidy(t *testing.T) {
	for _, bits := range noNumbers() {
		if got := num.Tidy(bits); got != num.NaN {
			t.Errorf("Tidy(%x): %x", bits, got)
		}
	}
	for _, bits := range numbers() {
		if got := num.Tidy(bits); got != bits {
			t.Errorf("Tidy(%x): %x", bits, got)
		}
	}
	for _, bits := range spread(1000) {
		want := bits
		if bits>>52&0x7ff == 0x7ff && bits<<12 != 0 {
			want = num.NaN
		}
		if got := num.Tidy(bits); got != want {
			t.Errorf("Tidy(%x): %x", bits, got)
		}
	}
}

func TestRealAtTheEdges(t *testing.T) {
	one, max := bitsOf(1), bitsOf(math.MaxFloat64)
	for _, c := range []struct {
		op         num.Op
		a, b, want uint64
	}{
		{num.Add, bitsOf(0.5), bitsOf(0.25), bitsOf(0.75)},
		{num.Add, bitsOf(0.1), bitsOf(0.2), 0x3fd3333333333334},
		{num.Add, 0, 0, 0},
		{num.Add, 0, negZero, 0},
		{num.Add, negZero, 0, 0},
		{num.Add, negZero, negZero, negZero},
		{num.Add, one, bitsOf(-1), 0},
		{num.Add, max, max, plusInf},
		{num.Add, max, one, max},
		{num.Add, max, bitsOf(0x1p970), plusInf},
		{num.Add, plusInf, plusInf, plusInf},
		{num.Add, plusInf, lessInf, num.NaN},
		{num.Add, lessInf, one, lessInf},
		{num.Add, bitsOf(two53), one, bitsOf(two53)},
		{num.Add, bitsOf(two53 + 2), one, bitsOf(two53 + 4)},
		{num.Sub, 0, 0, 0},
		{num.Sub, negZero, 0, negZero},
		{num.Sub, 0, negZero, 0},
		{num.Sub, plusInf, plusInf, num.NaN},
		{num.Sub, plusInf, lessInf, plusInf},
		{num.Sub, bitsOf(0x1p-1022), 1, bitsOf(0x1p-1022 - 0x1p-1074)},
		{num.Mul, negZero, bitsOf(3), negZero},
		{num.Mul, negZero, bitsOf(-3), 0},
		{num.Mul, 0, plusInf, num.NaN},
		{num.Mul, lessInf, negZero, num.NaN},
		{num.Mul, lessInf, bitsOf(-2), plusInf},
		{num.Mul, 1, bitsOf(0.5), 0},
		{num.Mul, 1, bitsOf(-0.5), negZero},
		{num.Mul, 3, bitsOf(0.5), 2},
		{num.Div, bitsOf(1), negZero, lessInf},
		{num.Div, bitsOf(1), 0, plusInf},
		{num.Div, bitsOf(-1), 0, lessInf},
		{num.Div, bitsOf(-1), negZero, plusInf},
		{num.Div, 0, 0, num.NaN},
		{num.Div, negZero, 0, num.NaN},
		{num.Div, plusInf, 0, plusInf},
		{num.Div, plusInf, lessInf, num.NaN},
		{num.Div, one, lessInf, negZero},
		{num.Div, one, bitsOf(3), 0x3fd5555555555555},
		{num.Div, max, bitsOf(0.5), plusInf},
		{num.Rem, bitsOf(3), bitsOf(2), num.NaN},
		{num.Rem, 0, one, num.NaN},
		{num.Rem, plusInf, lessInf, num.NaN},
		{num.Eq, 0, negZero, 1},
		{num.Ne, 0, negZero, 0},
		{num.Lt, negZero, 0, 0},
		{num.Le, 0, negZero, 1},
		{num.Eq, plusInf, plusInf, 1},
		{num.Eq, plusInf, lessInf, 0},
		{num.Lt, lessInf, plusInf, 1},
		{num.Lt, max, plusInf, 1},
		{num.Lt, bitsOf(-1), bitsOf(-2), 0},
	} {
		if got := num.Real(c.op, c.a, c.b); got != c.want {
			t.Errorf("Real(%d, %x, %x): %x; want %x", c.op, c.a, c.b, got, c.want)
		}
	}
}

// nearest rounds an exact result; a nought's sign can't be seen in it, so it is told.
func nearest(r *big.Rat, zeroNegative bool) uint64 {
	if r.Sign() == 0 {
		if zeroNegative {
			return negZero
		}
		return 0
	}
	x, _ := r.Float64()
	return bitsOf(x)
}

// wantReal reckons with fractions of any length, of finite reals, b not nought if it divides.
func wantReal(op num.Op, a, b uint64) uint64 {
	x, y := new(big.Rat).SetFloat64(math.Float64frombits(a)), new(big.Rat).SetFloat64(math.Float64frombits(b))
	aNeg, bNeg := a&negBit != 0, b&negBit != 0
	switch op {
	case num.Add:
		return nearest(x.Add(x, y), aNeg && bNeg)
	case num.Sub:
		return nearest(x.Sub(x, y), aNeg && !bNeg)
	case num.Mul:
		return nearest(x.Mul(x, y), aNeg != bNeg)
	}
	return nearest(x.Quo(x, y), aNeg != bNeg)
}

func finite(bits uint64) bool { return bits>>52&0x7ff != 0x7ff }

func TestRealRoundsToTheNearest(t *testing.T) {
	pool := numbers()
	for _, w := range spread(30) {
		// Of any size, and of like sizes, where more bits of both count.
		pool = append(pool, w, w&^(0x7ff<<52)|(1015+w>>40%16)<<52)
	}
	// Of the kind of the least ones, where fewer bits are left.
	for _, w := range spread(10) {
		pool = append(pool, w&^(0x7ff<<52), w&^(0x7ff<<52)|(512<<52))
	}
	for _, op := range []num.Op{num.Add, num.Sub, num.Mul, num.Div} {
		for _, a := range pool {
			for _, b := range pool {
				if !finite(a) || !finite(b) || op == num.Div && b<<1 == 0 {
					continue
				}
				if got, want := num.Real(op, a, b), wantReal(op, a, b); got != want {
					t.Fatalf("Real(%d, %x, %x): %x; want %x", op, a, b, got, want)
				}
			}
		}
	}
}

func TestRealOfOtherOps(t *testing.T) {
	for _, op := range otherOps {
		for _, a := range []uint64{0, negZero, bitsOf(1), plusInf, num.NaN} {
			for _, b := range []uint64{0, negZero, bitsOf(1), lessInf, 0xfff0000000000001} {
				if got := num.Real(op, a, b); got != 0 {
					t.Errorf("Real(%d, %x, %x): %x", op, a, b, got)
				}
			}
		}
	}
}

func TestNegReal(t *testing.T) {
	for _, bits := range numbers() {
		if got := num.NegReal(bits); got != bits^negBit {
			t.Errorf("NegReal(%x): %x", bits, got)
		}
	}
	for _, bits := range noNumbers() {
		if got := num.NegReal(bits); got != num.NaN {
			t.Errorf("NegReal(%x): %x", bits, got)
		}
	}
}

func TestFromInt(t *testing.T) {
	for n, want := range map[int]float64{
		0: 0, 1: 1, -1: -1, two53 - 1: 9007199254740991, two53: 9007199254740992,
		two53 + 1: 9007199254740992, two53 + 2: 9007199254740994, two53 + 3: 9007199254740996,
		-two53 - 1: -9007199254740992, -two53 - 3: -9007199254740996,
		1<<54 + 2: 1 << 54, 1<<54 + 3: 1<<54 + 4, 1<<54 + 6: 1<<54 + 8,
		math.MaxInt: 1 << 63, math.MaxInt - 511: 1 << 63, math.MaxInt - 512: 1<<63 - 1024, math.MinInt: -1 << 63, math.MinInt + 1: -1 << 63,
	} {
		if got := num.FromInt(n); got != bitsOf(want) {
			t.Errorf("FromInt(%d): %x; want %x", n, got, bitsOf(want))
		}
	}
	ns := edgeInts()
	for _, w := range spread(500) {
		ns = append(ns, int(w))
	}
	for _, n := range ns {
		if got, want := num.FromInt(n), nearest(new(big.Rat).SetInt64(int64(n)), false); got != want {
			t.Errorf("FromInt(%d): %x; want %x", n, got, want)
		}
	}
}

// wantTrunc cuts what is behind the point off an exact number, and stops at the ends.
func wantTrunc(bits uint64) int {
	z, _ := new(big.Float).SetFloat64(math.Float64frombits(bits)).Int(nil)
	if z.IsInt64() {
		return int(z.Int64())
	}
	if z.Sign() < 0 {
		return math.MinInt
	}
	return math.MaxInt
}

func TestTrunc(t *testing.T) {
	for bits, want := range map[uint64]int{
		bitsOf(-0.5): 0, bitsOf(0.5): 0, bitsOf(math.Nextafter(1, 0)): 0, bitsOf(math.Nextafter(-1, 0)): 0,
		bitsOf(2.9): 2, bitsOf(-2.9): -2, bitsOf(-1): -1, 0: 0, negZero: 0, 1: 0, negZero + 1: 0,
		plusInf: math.MaxInt, lessInf: math.MinInt, bitsOf(math.MaxFloat64): math.MaxInt, bitsOf(-math.MaxFloat64): math.MinInt,
		bitsOf(1 << 63): math.MaxInt, bitsOf(-1 << 63): math.MinInt, bitsOf(1 << 62): 1 << 62,
		bitsOf(math.Nextafter(1<<63, 0)): math.MaxInt - 1023, bitsOf(math.Nextafter(-1<<63, 0)): math.MinInt + 1024,
		bitsOf(math.Nextafter(1<<63, math.Inf(1))): math.MaxInt, bitsOf(math.Nextafter(-1<<63, math.Inf(-1))): math.MinInt,
		bitsOf(1 << 64): math.MaxInt, bitsOf(-1 << 64): math.MinInt,
		bitsOf(4503599627370495.5): 4503599627370495, bitsOf(-4503599627370495.5): -4503599627370495,
	} {
		if got := num.Trunc(bits); got != want {
			t.Errorf("Trunc(%x): %d; want %d", bits, got, want)
		}
	}
	for _, bits := range noNumbers() {
		if got := num.Trunc(bits); got != 0 {
			t.Errorf("Trunc(%x): %d", bits, got)
		}
	}
	for _, w := range spread(500) {
		bits := w&^(0x7ff<<52) | (1020+w>>40%70)<<52
		if got, want := num.Trunc(bits), wantTrunc(bits); got != want {
			t.Errorf("Trunc(%x): %d; want %d", bits, got, want)
		}
	}
}

// P1.2

func TestNoNumberStaysNoNumber(t *testing.T) {
	all := append(numbers(), noNumbers()...)
	for _, bad := range noNumbers() {
		for _, b := range all {
			for _, op := range []num.Op{num.Add, num.Sub, num.Mul, num.Div, num.Rem} {
				if x, y := num.Real(op, bad, b), num.Real(op, b, bad); x != num.NaN || y != num.NaN {
					t.Errorf("op %d of %x and %x: %x, %x", op, bad, b, x, y)
				}
			}
		}
	}
}

func TestNoNumberIsLikeNothing(t *testing.T) {
	all := append(numbers(), noNumbers()...)
	for _, bad := range noNumbers() {
		for _, b := range all {
			for _, op := range []num.Op{num.Eq, num.Ne, num.Lt, num.Le} {
				want := uint64(0)
				if op == num.Ne {
					want = 1
				}
				if x, y := num.Real(op, bad, b), num.Real(op, b, bad); x != want || y != want {
					t.Errorf("op %d of %x and %x: %x, %x", op, bad, b, x, y)
				}
			}
		}
	}
}

// oneOfThree tells whether Real's comparisons say just that a is less (-1), equal (0), or greater (1).
func oneOfThree(a, b uint64, order int) bool {
	is := func(yes bool) uint64 {
		if yes {
			return 1
		}
		return 0
	}
	return num.Real(num.Lt, a, b) == is(order < 0) && num.Real(num.Eq, a, b) == is(order == 0) && num.Real(num.Lt, b, a) == is(order > 0) &&
		num.Real(num.Ne, a, b) == is(order != 0) && num.Real(num.Le, a, b) == is(order <= 0) && num.Real(num.Le, b, a) == is(order >= 0)
}

func TestJustOneOfLessEqualGreater(t *testing.T) {
	row := ascending()
	for i, a := range row {
		for j, b := range row {
			if !oneOfThree(a, b, i-j) {
				t.Errorf("%x and %x", a, b)
			}
			if a == 0 && !oneOfThree(negZero, b, i-j) {
				t.Errorf("the negative nought and %x", b)
			}
		}
	}
	words := spread(200)
	for i := range words[1:] {
		a, b := words[i], words[i+1]
		if !finite(a) || !finite(b) {
			continue
		}
		x, y := new(big.Float).SetFloat64(math.Float64frombits(a)), new(big.Float).SetFloat64(math.Float64frombits(b))
		if !oneOfThree(a, b, x.Cmp(y)) {
			t.Errorf("%x and %x", a, b)
		}
	}
}

func TestWholeNumbersComeBack(t *testing.T) {
	ns := []int{0, 1, 2, 3, 1 << 31, 1<<31 - 1, 1 << 32, 1<<52 - 1, 1 << 52, 1<<52 + 1, two53 - 2, two53 - 1, two53}
	for _, w := range spread(1000) {
		ns = append(ns, int(w>>11))
	}
	for _, n := range ns {
		if up, down := num.Trunc(num.FromInt(n)), num.Trunc(num.FromInt(-n)); up != n || down != -n {
			t.Errorf("%d: %d, %d", n, up, down)
		}
	}
	// Just above they can't all, the nearest one comes; at the top it is the end.
	for n, want := range map[int]int{two53 + 1: two53, -two53 - 1: -two53, math.MaxInt: math.MaxInt, math.MinInt: math.MinInt} {
		if got := num.Trunc(num.FromInt(n)); got != want {
			t.Errorf("%d: %d; want %d", n, got, want)
		}
	}
}

func TestExamplesOfTheChapter(t *testing.T) {
	if got := num.Real(num.Div, bitsOf(1), negZero); got != lessInf {
		t.Errorf("1 by -0: %x", got)
	}
	if got := num.Trunc(bitsOf(-0.5)); got != 0 {
		t.Errorf("-0.5: %d", got)
	}
}
