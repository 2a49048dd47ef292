package path_test

import (
	"fmt"
	"math"
	"slices"
	"strings"
	"testing"

	"padlock/api"
	"padlock/num"
)

// P13.1: the chapter's example, as code, and each row of its table.
func TestOrdinary(t *testing.T) {
	will(t, "the chapter's example", row(loadG(ra, gA), loadF(rb, ra, 0, left)), known{ra: "g0", rb: "g0.0"})
	will(t, "with a store of the global", row(loadG(ra, gA), loadF(rb, ra, 0, left), storeG(gA)), known{ra: "?", rb: "?"})
	will(t, "nothing", nil, nil)
	will(t, "a move", row(move(ra, rb)), known{ra: "s1"})
	will(t, "a new record", row(makeRec(ra, 0)), known{ra: "new"})
	will(t, "a new array", row(makeInts(array)), known{array: "new"})
	will(t, "a global", row(loadG(ra, gB)), known{ra: "g1"})
	will(t, "a field", row(loadF(ra, rb, 0, right)), known{ra: "s1.1"})
}

// P13.1: of each Kind of slot, through each row.
func TestKinds(t *testing.T) {
	will(t, "globals", row(loadG(ta, gTwin), loadG(whole, gNumber), loadG(frac, gPart), loadG(array, gList)),
		known{ta: "g2", whole: "g3", frac: "g4", array: "g5"})
	will(t, "fields", row(loadF(ta, ra, 0, twin), loadF(whole, ra, 0, number), loadF(frac, ra, 0, part), loadF(array, ra, 0, list)),
		known{ta: "s0.2", whole: "s0.3", frac: "s0.4", array: "s0.5"})
	will(t, "moves", row(move(ta, tb), move(whole, plainNum), move(array, plainArray)),
		known{ta: "s6", whole: "s12", array: "s13"})
	// Nobody asks whether a move is of one Kind.
	will(t, "moves of any Kind", row(move(whole, frac), move(ra, ta), move(array, whole)), known{whole: "s8", ra: "s5", array: "s8"})
	will(t, "a field, through a move of another Kind", row(move(ta, rb), loadF(tb, ta, 1, right)), known{ta: "s1", tb: "s1.1"})
}

// P13.1: a slot that gets no value there, Once or not, whatever else the section does with it.
func TestNotGiven(t *testing.T) {
	will(t, "slots that are read", row(storeF(ra, 0, left), storeF(plain, 0, right), storeE(array, slot(whole)), storeE(plainArray, slot(plainNum))), nil)
	will(t, "slots that are named", row(
		api.Instr{Op: api.PutInt, Items: row(slot(whole))}, api.Instr{Op: api.PutReal, Items: row(slot(frac))},
		api.Instr{Op: api.Zero, To: 1, Items: row(slot(plainNum))}, api.Instr{Op: api.Jump, To: 1},
		api.Instr{Op: api.StoreG, N: gA, Items: row(slot(ra))}, api.Instr{Op: api.StoreF, Src: ra, N: left, Items: row(slot(rb))},
	), nil)
	// Their Dst, which is 0, isn't given a value, nor is their Src.
	will(t, "stores alone", row(storeG(gA), storeF(plain, 0, left), storeE(array, push(0))), nil)
	will(t, "what it is known by", row(loadF(rb, ra, 0, left), loadE(whole, array, slot(plainNum)), sizeOf(plainNum, plainArray)),
		known{rb: "s0.0", whole: "?", plainNum: "?"})
}

// P13.1: a slot that gets its value by one instruction must be Once, and by two it mustn't.
func TestOnce(t *testing.T) {
	gives := map[string]struct {
		x    api.Instr
		want string
	}{
		"a move":  {move(0, rb), "s1"},
		"a make":  {makeRec(0, 0), "new"},
		"a load":  {loadG(0, gA), "g0"},
		"a field": {loadF(0, rb, 0, left), "s1.0"},
	}
	to := func(dst int, x api.Instr) api.Instr {
		x.Dst = dst
		return x
	}
	for what, g := range gives {
		will(t, what, row(to(ra, g.x)), known{ra: g.want})
		will(t, what+", not Once", row(to(plain, g.x)), known{plain: "?"})
		will(t, what+", twice", row(to(ra, g.x), to(ra, g.x)), known{ra: "?"})
		will(t, what+", not Once, and twice", row(to(plain, g.x), to(plain, g.x)), known{plain: "?"})
		for also, h := range gives {
			will(t, what+" and "+also, row(to(ra, g.x), to(rc, h.x), to(ra, h.x)), known{ra: "?", rc: h.want})
		}
		will(t, what+", and by something that leaves it unknown", row(to(ra, g.x), calc(ra, push(0))), known{ra: "?"})
		will(t, what+", ahead of which it is left unknown", row(calc(ra, push(0)), to(ra, g.x)), known{ra: "?"})
		will(t, what+", three times", row(to(ra, g.x), to(ra, g.x), to(ra, g.x)), known{ra: "?"})
	}
	will(t, "what hangs on one that isn't Once", row(loadG(plain, gA), move(ra, plain), loadF(rb, plain, 0, left)), known{plain: "?", ra: "?", rb: "?"})
	will(t, "what hangs on one that is given twice", row(loadG(ra, gA), loadG(ra, gA), move(rb, ra), loadF(rc, ra, 0, left)), known{ra: "?", rb: "?", rc: "?"})
	will(t, "what hangs on one that isn't Once, and isn't given", row(move(ra, plain), loadF(rb, plain, 0, left)), known{ra: "s10", rb: "s10.0"})
	// That way leads nowhere: it counts all the same.
	will(t, "behind a jump", row(api.Instr{Op: api.Jump, To: 3}, loadG(ra, gB), loadG(ra, gA)), known{ra: "?"})
	will(t, "behind a jump alone", row(api.Instr{Op: api.Jump, To: 3}, loadG(ra, gB), loadG(rb, gA)), known{ra: "g1", rb: "g0"})
}

// P13.1: what is done elsewhere alone: in another section, outside all, in another thread.
func TestElsewhere(t *testing.T) {
	c := coded(nodes(), globals(),
		thread(slots(), row(move(rd, re)), section(loadG(ra, gA), loadG(plain, gA), loadG(rc, gA)), row(calc(whole, push(1)), move(plain, ra), calc(plain, push(0))), section(loadF(rb, ra, 0, left), loadG(rc, gA)), row(move(re, ra))),
		thread(slots(), section(loadG(ra, gB), loadG(rb, gB)), row(move(rc, ra))))
	in(t, "the first section", c, 0, known{ra: "g0", plain: "?", rc: "g0"})
	in(t, "the second section", c, 1, known{rb: "s0.0", rc: "g0"})
	in(t, "the other thread's", c, 2, known{ra: "g1", rb: "g1"})
	// The Begin's place is the section's first one, the Leave's its last one.
	c = coded(nodes(), globals(), thread(slots(), row(move(ra, rb)), section(), row(move(ra, rb)), section(loadG(rc, gA)), row(move(rc, rb))))
	in(t, "a section of nothing", c, 0, nil)
	in(t, "a section of one load", c, 1, known{rc: "g0"})
	// Sections aren't numbered as they stand.
	c = renumbered(coded(nodes(), globals(), thread(slots(), section(loadG(ra, gA)), section(loadG(ra, gB))), thread(slots(), section(loadG(rb, gB)))), 2, 0, 1)
	in(t, "the second one of the first thread", c, 0, known{ra: "g1"})
	in(t, "the one of the second thread", c, 1, known{rb: "g1"})
	in(t, "the first one of the first thread", c, 2, known{ra: "g0"})
}

// P13.1: instructions that no row of the table names.
func TestUnknown(t *testing.T) {
	will(t, "loads of cells", row(loadE(whole, array, push(0))), known{whole: "?"})
	will(t, "loads of a new array's cells", row(makeInts(array), loadE(whole, array, push(0))), known{array: "new", whole: "?"})
	will(t, "sizes", row(sizeOf(whole, array)), known{whole: "?"})
	will(t, "sizes of a new array", row(makeInts(array), sizeOf(whole, array)), known{array: "new", whole: "?"})
	for _, x := range []struct {
		what  string
		items []api.Item
	}{
		{"a number", row(push(0))},
		{"a slot's number", row(push(rb))},
		{"a great number", row(push(math.MaxUint64))},
		{"an input", row(api.Item{Op: api.In, N: rb})},
		{"a slot with the other sign", row(slot(rb), api.Item{Op: api.NegInt})},
		{"a real slot with the other sign", row(slot(rb), api.Item{Op: api.NegReal})},
		{"a slot as a real", row(slot(rb), api.Item{Op: api.Widen})},
		{"a slot as an int", row(slot(rb), api.Item{Op: api.Narrow})},
		{"two slots", row(slot(rb), slot(rb), api.Item{Op: api.BinInt, Bin: int(num.Add)})},
		{"a slot and nought", row(slot(rb), push(0), api.Item{Op: api.BinInt})},
		{"nought and a slot", row(push(0), slot(rb), api.Item{Op: api.BinInt})},
		{"whether two are the same", row(slot(rb), slot(rc), api.Item{Op: api.BinRef, Bin: int(num.Eq)})},
	} {
		will(t, x.what, row(calc(ra, x.items...)), known{ra: "?"})
		will(t, x.what+", and what hangs on it", row(calc(ra, x.items...), move(rc, ra), loadF(rd, ra, 0, left)), known{ra: "?", rc: "?", rd: "?"})
	}
}

// P13.1: what is known by others, through several instructions, in whatever order these stand.
func TestOrders(t *testing.T) {
	for _, x := range []struct {
		what string
		list []api.Instr
		want known
	}{
		{"moves", row(move(ra, rb), move(rb, rc), move(rc, rd), move(rd, re)), known{ra: "s4", rb: "s4", rc: "s4", rd: "s4"}},
		{"moves of what is new", row(makeRec(ra, 0), move(rb, ra), move(rc, rb), move(rd, ra)), known{ra: "new", rb: "new", rc: "new", rd: "new"}},
		{"fields of fields", row(loadG(ra, gA), loadF(rb, ra, 0, left), loadF(rc, rb, 0, right), loadF(rd, rc, 0, right)),
			known{ra: "g0", rb: "g0.0", rc: "g0.0.1", rd: "g0.0.1.1"}},
		{"moves and fields", row(move(rb, plain), loadF(rc, rb, 0, right), move(rd, rc), loadF(ta, rd, 0, twin), loadF(whole, ta, 1, number)),
			known{rb: "s10", rc: "s10.1", rd: "s10.1", ta: "s10.1.2", whole: "s10.1.2.3"}},
		{"fields of one", row(loadG(ra, gB), loadF(rb, ra, 0, left), loadF(rc, ra, 0, left), loadF(rd, ra, 0, right), loadF(whole, ra, 0, number)),
			known{ra: "g1", rb: "g1.0", rc: "g1.0", rd: "g1.1", whole: "g1.3"}},
		{"what is unknown", row(calc(ra, push(0)), move(rb, ra), loadF(rc, rb, 0, left), move(rd, rc)), known{ra: "?", rb: "?", rc: "?", rd: "?"}},
		{"a field that is stored between", row(loadG(ra, gA), loadF(rb, ra, 0, left), storeF(rb, 0, right), loadF(rc, rb, 0, right), loadF(rd, rb, 0, left)),
			known{ra: "g0", rb: "g0.0", rc: "?", rd: "g0.0.0"}},
	} {
		for order := range permutations(len(x.list)) {
			var list []api.Instr
			for _, at := range order {
				list = append(list, x.list[at])
			}
			will(t, fmt.Sprint(x.what, " ", order), list, x.want)
		}
	}
}

// permutations goes over all orders of so many.
func permutations(n int) func(yield func([]int) bool) {
	return func(yield func([]int) bool) {
		var order []int
		var next func() bool
		next = func() bool {
			if len(order) == n {
				return yield(slices.Clone(order))
			}
			for at := range n {
				if slices.Contains(order, at) {
					continue
				}
				order = append(order, at)
				if !next() {
					return false
				}
				order = order[:len(order)-1]
			}
			return true
		}
		next()
	}
}

// P13.1: of those that hang on one another, or on themselves, nothing is known, nor of what hangs on them; of others it is.
func TestCircles(t *testing.T) {
	for _, x := range []struct {
		what string
		list []api.Instr
		want known
	}{
		{"a move to itself", row(move(ra, ra)), known{ra: "?"}},
		{"a field to where it is from", row(loadF(ra, ra, 0, left)), known{ra: "?"}},
		{"two moves", row(move(ra, rb), move(rb, ra)), known{ra: "?", rb: "?"}},
		{"two fields", row(loadF(ra, rb, 0, left), loadF(rb, ra, 0, right)), known{ra: "?", rb: "?"}},
		{"a move and a field", row(move(ra, rb), loadF(rb, ra, 0, right)), known{ra: "?", rb: "?"}},
		{"three", row(move(ra, rb), loadF(rb, rc, 0, right), move(rc, ra)), known{ra: "?", rb: "?", rc: "?"}},
		{"five", row(move(ra, rb), move(rb, rc), move(rc, rd), move(rd, re), move(re, ra)), known{ra: "?", rb: "?", rc: "?", rd: "?", re: "?"}},
		{"what hangs on a circle", row(move(ra, rb), move(rb, rc), move(rc, rb), loadF(rd, ra, 0, left)), known{ra: "?", rb: "?", rc: "?", rd: "?"}},
		{"what hangs on itself, and on it", row(move(rc, rc), move(rb, rc), move(ra, rb)), known{ra: "?", rb: "?", rc: "?"}},
		{"two circles, and what is none", row(move(ra, rb), move(rb, ra), loadF(rc, rd, 0, left), move(rd, rc), loadF(whole, re, 0, number)),
			known{ra: "?", rb: "?", rc: "?", rd: "?", whole: "s4.3"}},
		{"a circle with a gap", row(move(ra, rb), move(rb, plain), move(plainTwin, ra)), known{ra: "s10", rb: "s10", plainTwin: "?"}},
		{"a circle through what isn't Once", row(move(plain, ra), move(ra, plain)), known{ra: "?", plain: "?"}},
		{"a circle, one of which is given twice", row(move(ra, rb), move(rb, ra), loadG(ra, gA)), known{ra: "?", rb: "?"}},
	} {
		will(t, x.what, x.list, x.want)
		slices.Reverse(x.list)
		will(t, x.what+", the other way", x.list, x.want)
	}
}

// P13.1, P13.2: a global that the section stores, ahead of the load or behind it; one that only another section stores.
func TestStoredGlobals(t *testing.T) {
	for n, dst := range row(ra, rb, ta, whole, frac, array) {
		load := loadG(dst, n)
		will(t, "ahead", row(storeG(n), load), known{dst: "?"})
		will(t, "behind", row(load, storeG(n)), known{dst: "?"})
		will(t, "twice", row(storeG(n), load, storeG(n)), known{dst: "?"})
		for other := range 6 {
			if other != n {
				will(t, "another one", row(storeG(other), load, storeG(other)), known{dst: fmt.Sprint("g", n)})
			}
		}
	}
	will(t, "a field of the same number", row(storeF(rb, 0, gA), loadG(ra, gA)), known{ra: "g0"})
	will(t, "behind a jump", row(loadG(ra, gA), api.Instr{Op: api.Jump, To: 4}, storeG(gA)), known{ra: "?"})
	will(t, "what hangs on it", row(loadG(ra, gA), loadF(rb, ra, 0, left), move(rc, rb), storeG(gA), loadG(rd, gB)), known{ra: "?", rb: "?", rc: "?", rd: "g1"})
	c := coded(nodes(), globals(), thread(slots(), section(storeG(gA)), section(loadG(ra, gA)), section(storeG(gA))), thread(slots(), section(storeG(gA))))
	in(t, "only other sections store it", c, 1, known{ra: "g0"})
}

// P13.1, P13.2: a field that the section stores of that record, ahead of the load or behind it; the like-numbered one of another record; another one of it.
func TestStoredFields(t *testing.T) {
	for n, dst := range row(ra, rb, ta, whole, frac, array) {
		load, way := loadF(dst, re, 0, n), fmt.Sprint("s4.", n)
		will(t, "ahead", row(storeF(re, 0, n), load), known{dst: "?"})
		will(t, "behind", row(load, storeF(re, 0, n)), known{dst: "?"})
		will(t, "through another slot", row(load, storeF(plain, 0, n)), known{dst: "?"})
		will(t, "the other record's", row(storeF(tb, 1, n), load), known{dst: way})
		will(t, "the other record's, too", row(storeF(tb, 1, n), load, storeF(plain, 0, n)), known{dst: "?"})
		for other := range 6 {
			if other != n {
				will(t, "another one", row(storeF(re, 0, other), load, storeF(plain, 0, other)), known{dst: way})
			}
		}
		c := coded(nodes(), globals(), thread(slots(), section(storeF(re, 0, n)), section(load), section(storeF(re, 0, n))), thread(slots(), section(storeF(re, 0, n))))
		in(t, "only other sections store it", c, 1, known{dst: way})
	}
	will(t, "a global of the same number", row(storeG(left), loadF(ra, rb, 0, left)), known{ra: "s1.0"})
	will(t, "of the other record", row(loadF(ta, tb, 1, left), storeF(ra, 0, left)), known{ta: "s6.0"})
	will(t, "of the other record, which is stored", row(loadF(ta, tb, 1, left), storeF(ta, 1, left)), known{ta: "?"})
	will(t, "behind a jump", row(loadF(ra, rb, 0, left), api.Instr{Op: api.Jump, To: 4}, storeF(re, 0, left)), known{ra: "?"})
	will(t, "of what is new", row(makeRec(ra, 0), storeF(ra, 0, left), loadF(rb, rc, 0, left)), known{ra: "new", rb: "?"})
	will(t, "what hangs on it", row(loadF(ra, plain, 0, left), loadF(rb, ra, 0, right), storeF(plain, 0, left)), known{ra: "?", rb: "?"})
	will(t, "cells of an array", row(loadF(array, ra, 0, list), storeE(array, push(left))), known{array: "s0.5"})
}

// P13.1, P13.2: paths of no field, of one, of as many as there may be, and of one more.
func TestLongPaths(t *testing.T) {
	will(t, "from a global", row(loadG(ra, gB), loadF(rb, ra, 0, left), loadF(rc, rb, 0, right), loadF(rd, rc, 0, left), loadF(re, rd, 0, right)),
		known{ra: "g1", rb: "g1.0", rc: "g1.0.1", rd: "g1.0.1.0", re: "?"})
	will(t, "from a slot", row(loadF(rb, ra, 0, right), loadF(rc, rb, 0, right), loadF(rd, rc, 0, left), loadF(re, rd, 0, left)),
		known{rb: "s0.1", rc: "s0.1.1", rd: "s0.1.1.0", re: "?"})
	will(t, "numbers, of what is as far as may be", row(loadF(rb, ra, 0, right), loadF(rc, rb, 0, right), loadF(ta, rc, 0, twin), loadF(whole, ta, 1, number), loadF(array, rc, 0, list)),
		known{rb: "s0.1", rc: "s0.1.1", ta: "s0.1.1.2", whole: "?", array: "s0.1.1.5"})
	will(t, "moves of what is as far as may be", row(loadF(rb, ra, 0, right), loadF(rc, rb, 0, right), loadF(rd, rc, 0, left), move(re, rd)),
		known{rb: "s0.1", rc: "s0.1.1", rd: "s0.1.1.0", re: "s0.1.1.0"})
	will(t, "what hangs on one that is too far", row(loadG(ra, gA), loadF(rb, ra, 0, left), loadF(rc, rb, 0, right), loadF(rd, rc, 0, left), loadF(re, rd, 0, right), move(plain, re), loadF(ta, re, 0, twin), move(tb, ta)),
		known{ra: "g0", rb: "g0.0", rc: "g0.0.1", rd: "g0.0.1.0", re: "?", plain: "?", ta: "?", tb: "?"})
	// Chains as long as there may be slots, from their ends and from their beginnings.
	slots := times(api.MaxSlots, once(ref(0)))
	var chain, moves []api.Instr
	far, moved := "s0", "s0"
	for n := 1; n < api.MaxSlots; n++ {
		chain, moves = append(chain, loadF(n, n-1, 0, left)), append(moves, move(n, n-1))
		moved += " s0"
		if n <= 3 {
			far += " s0" + strings.Repeat(".0", n)
		} else {
			far += " ?"
		}
	}
	for range 2 {
		is(t, "a chain of fields", coded(nodes(), nil, thread(slots, section(chain...))), 0, far)
		is(t, "a chain of moves", coded(nodes(), nil, thread(slots, section(moves...))), 0, moved)
		slices.Reverse(chain)
		slices.Reverse(moves)
	}
	moves = append(moves, move(0, api.MaxSlots-1))
	is(t, "a circle of moves", coded(nodes(), nil, thread(slots, section(moves...))), 0, strings.Repeat("? ", api.MaxSlots-1)+"?")
}

// P13.1: loads from what is new, and from what nothing is known of.
func TestLoadsFrom(t *testing.T) {
	will(t, "new", row(makeRec(ra, 0), loadF(rb, ra, 0, left), loadF(whole, ra, 0, number)), known{ra: "new", rb: "?", whole: "?"})
	will(t, "moved, and new", row(makeRec(ra, 0), move(rb, ra), loadF(rc, rb, 0, left)), known{ra: "new", rb: "new", rc: "?"})
	will(t, "unknown", row(calc(ra, push(0)), loadF(rb, ra, 0, left)), known{ra: "?", rb: "?"})
	will(t, "a field of what was in a new one", row(makeRec(ra, 0), loadF(rb, ra, 0, left), loadF(rc, rb, 0, left)), known{ra: "new", rb: "?", rc: "?"})
	will(t, "a known one beside a new one", row(makeRec(ra, 0), loadF(rc, rb, 0, left)), known{ra: "new", rc: "s1.0"})
}

// P13.1: paths start with each slot, and each global.
func TestStarts(t *testing.T) {
	var globals []api.Local
	slots := times(api.MaxSlots, once(ref(0)))
	var loads []api.Instr
	want := ""
	for n := range api.MaxGlobals {
		globals = append(globals, ref(0))
		loads = append(loads, loadG(2*n, n), loadF(2*n+1, 2*n, 0, n%2))
		want += fmt.Sprintf("g%d g%d.%d ", n, n, n%2)
	}
	for n := 2 * api.MaxGlobals; n < api.MaxSlots; n++ {
		want += fmt.Sprintf("s%d ", n)
	}
	is(t, "globals", coded(nodes(), globals, thread(slots, section(loads...))), 0, want[:len(want)-1])
	for n := range api.MaxSlots {
		other := (n + 1) % api.MaxSlots
		want := make([]string, api.MaxSlots)
		for k := range want {
			want[k] = fmt.Sprint("s", k)
		}
		want[other] = fmt.Sprintf("s%d.1", n)
		is(t, "a field", coded(nodes(), nil, thread(slots, section(loadF(other, n, 0, right)))), 0, strings.Join(want, " "))
	}
}
