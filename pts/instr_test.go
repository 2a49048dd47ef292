package pts_test

import (
	"fmt"
	"strings"
	"testing"

	"padlock/api"
)

// after: the facts that the makes of with bring, and others that stand behind those.
func after(facts string) string { return strings.TrimSpace(before + " " + facts) }

// onKind: the fact, if a slot, a global or a field of that number of kinds is a Ref or an Ints, and else none.
func onKind(at int, format string, args ...any) string {
	if at < 2 {
		return ""
	}
	return fmt.Sprintf(format, args...)
}

// P11.1: the chapter's example.
func TestExample(t *testing.T) {
	c := coded(row(row(anInt)), row(ref(0)), within(row(ref(0), ref(0)), makeRec(0, 0), storeG(0, slot(0)), loadG(1, 0)))
	has(t, "the example", c, "t0.0=0 t0.1=0 g0=0")
}

// P11.1: a make brings its own site, and nothing else does.
func TestMakes(t *testing.T) {
	has(t, "all makes", with(), before)
	has(t, "one more of each", with(makeInts(array), makeRec(refA, 0), makeInts(2), makeRec(3, 0), makeRec(4, 1)),
		"t0.2=7 t0.3=8 t0.4=9 t0.5=0,6 t0.6=1 t0.7=2 t0.8=3,5 t0.9=4")
	for _, dst := range []int{refA, refB, refC, array} {
		named := makeInts(other)
		named.Items = sum(dst)
		has(t, "items of how many cells", with(named), "t0.5=0 t0.6=1 t0.7=2 t0.8=3 t0.9=4,5")
	}
}

// P11.1: a site's number is its place among the sites, wherever its make stands.
func TestSiteNumbers(t *testing.T) {
	c := with(storeG(3, slot(refA)), storeG(2, slot(array)))
	swap := func(a, b int) {
		c.Sites[a], c.Sites[b] = c.Sites[b], c.Sites[a]
		c.Threads[0].Code[c.Sites[a].At].N = a
		c.Threads[0].Code[c.Sites[b].At].N = b
	}
	swap(0, 4)
	swap(1, 3)
	are(t, "sites in another order", c, `
		slots - - - - - 4 3 2 1 0
		globals - - 1 4 -
		fields
		fields
		fields - -
		fields - - - - -
		fields - - - - -`)
}

// P11.1: the last site that may be.
func TestLastSite(t *testing.T) {
	slots, list := row(ref(0), ref(0)), []api.Instr{}
	for range api.MaxSites {
		list = append(list, makeRec(0, 0))
	}
	c := coded(row(row(ref(0))), nil, within(slots, append(list, storeF(0, 0, 0, slot(0)), loadF(1, 0, 0, 0))...))
	s := solved(t, c)
	if all := uint64(1<<32 - 1); s.Slots[0][0] != all || s.Slots[0][1] != all || len(s.Fields) != 32 || s.Fields[31][0] != all {
		t.Error(listing(s))
	}
}

// P11.1: DoCalc brings what its Items may mean to a Dst of things, of whatever Kind that is.
func TestCalc(t *testing.T) {
	for dst := range kinds() {
		for n, src := range []int{refA, refB, refC, array, other} {
			has(t, fmt.Sprint("calc ", dst, " of ", src), with(move(dst, src)), strings.TrimSpace(onKind(dst, "t0.%d=%d ", dst, n)+before))
		}
	}
	has(t, "by way of whole numbers, and reals", with(move(0, refA), move(3, 0), move(1, array), move(2, 1)), before)
	has(t, "to itself", with(move(refA, refA)), before)
	has(t, "to one that has something", with(move(refA, array)), "t0.5=0,3 t0.6=1 t0.7=2 t0.8=3 t0.9=4")
}

// P11.1: StoreG, likewise.
func TestStoreG(t *testing.T) {
	for global := range kinds() {
		for n, src := range []int{refA, refB, refC, array, other} {
			has(t, fmt.Sprint("global ", global, " of ", src), with(storeG(global, slot(src))), after(onKind(global, "g%d=%d", global, n)))
		}
	}
	has(t, "twice", with(storeG(3, slot(refA)), storeG(3, slot(other))), after("g3=0,4"))
}

// P11.1: LoadG brings what is in the global, and nothing to it.
func TestLoadG(t *testing.T) {
	for global := range kinds() {
		has(t, fmt.Sprint("global ", global, " of nothing"), with(loadG(global, global)), before)
		got := strings.TrimSpace(onKind(global, "t0.%d=1,3 ", global) + before + onKind(global, " g%d=1,3", global))
		has(t, fmt.Sprint("global ", global), with(loadG(global, global), storeG(global, sum(refB, array)...)), got)
	}
	has(t, "another global", with(loadG(3, 3), storeG(4, slot(refA))), after("g4=0"))
	has(t, "no way back", with(loadG(refA, 3)), before)
}

// P11.1: the slots that Items name, whatever they reckon.
func TestItems(t *testing.T) {
	to := func(what string, want string, items ...api.Item) {
		t.Helper()
		own := strings.TrimSpace(want)
		if own == "" {
			has(t, what, with(calc(3, items...), storeG(4, items...), storeF(refA, 0, 4, items...)), before)
			return
		}
		has(t, what, with(calc(3, items...)), "t0.3="+own+" "+before)
		has(t, what, with(storeG(4, items...)), after("g4="+own))
		has(t, what, with(storeF(refA, 0, 4, items...)), after("f0.4="+own))
	}
	to("nobody", "", push(0))
	for n := range uint64(10) {
		to("a number, as that of a slot", "", push(n))
	}
	for n := range api.MaxInput {
		to("an input", "", api.Item{Op: api.In, N: uint64(n)})
	}
	to("whole numbers, and reals", "", slot(0), slot(1), bin(api.BinInt, 1))
	to("one", "2", slot(refC))
	to("one, twice", "3", slot(array), slot(array), bin(api.BinRef, 5))
	to("two", "0,4", slot(refA), slot(other), bin(api.BinRef, 6))
	to("two, the other way", "0,4", slot(other), slot(refA), bin(api.BinInt, 8))
	to("all", "0,1,2,3,4", sum(refA, refB, refC, array, other)...)
	to("with whole numbers ahead, between and behind", "1,3", sum(0, refB, 0, 1, array, 0)...)
	to("with a number of another slot", "1", push(refA), slot(refB), bin(api.BinInt, 1))
	to("with an input of that number", "1", slot(refB), api.Item{Op: api.In, N: refA}, bin(api.BinInt, 1))
	to("below other items", "0", slot(refA), api.Item{Op: api.NegInt}, api.Item{Op: api.Widen}, api.Item{Op: api.NegReal}, api.Item{Op: api.Narrow})
	to("of reals", "0,1", slot(refA), slot(refB), bin(api.BinReal, 0))
	to("with a slot to which nothing comes", "0", sum(refA, 3, 4)...)
	most := row(slot(refA))
	for len(most)+2 < api.MaxItems {
		most = append(most, slot(array), bin(api.BinInt, 0))
	}
	to("as many as may be, but one", "0,3", append(most, api.Item{Op: api.NegInt})...)
	last := row(push(0))
	for range 30 {
		last = append(last, push(1), bin(api.BinInt, 0))
	}
	to("the last one", "4", append(last, slot(other), bin(api.BinInt, 0))...)
}

// P11.1: StoreF brings to fields of sites whose Rec is its own.
func TestStoreF(t *testing.T) {
	for field := range kinds() {
		for n, src := range []int{refA, refB, refC, array, other} {
			has(t, fmt.Sprint("field ", field, " of ", src), with(storeF(refA, 0, field, slot(src))), after(onKind(field, "f0.%d=%d", field, n)))
		}
	}
	has(t, "of R 1", with(storeF(refB, 1, 0, slot(refA)), storeF(refB, 1, 2, slot(refA)), storeF(refB, 1, 3, slot(array))), after("f1.0=0 f1.3=3"))
	has(t, "a Src of nothing", with(storeF(3, 0, 3, slot(refA))), before)
	has(t, "items of nothing", with(storeF(refA, 0, 3, slot(3))), before)
	has(t, "itself", with(storeF(refA, 0, 3, slot(refA))), after("f0.3=0"))
	has(t, "two sites", with(makeRec(refA, 0), storeF(refA, 0, 3, slot(array))), "t0.5=0,5 t0.6=1 t0.7=2 t0.8=3 t0.9=4 f0.3=3 f5.3=3")
	has(t, "another site of the record", with(makeRec(3, 0), storeF(refA, 0, 3, slot(array))), "t0.3=5 "+before+" f0.3=3")
	mixed := func(x api.Instr) api.Code { return with(calc(refA, sum(refB, refC, array)...), x) }
	const all = "t0.5=0,1,2,3 t0.6=1 t0.7=2 t0.8=3 t0.9=4"
	has(t, "sites of other records, and of an array", mixed(storeF(refA, 0, 3, slot(other))), all+" f0.3=4")
	has(t, "the field 0", mixed(storeF(refA, 0, 0, slot(other))), all)
	has(t, "only sites of other records", with(move(3, refB), move(3, array), storeF(3, 0, 3, slot(refA))), "t0.3=1,3 "+before)
	has(t, "several slots", with(storeF(refA, 0, 4, sum(refB, array)...)), after("f0.4=1,3"))
}

// P11.1: LoadF brings what is in that field of all sites that have one, of whatever record.
func TestLoadF(t *testing.T) {
	for field := range kinds() {
		has(t, fmt.Sprint("field ", field, " of nothing"), with(loadF(field, refA, 0, field)), before)
		got := strings.TrimSpace(onKind(field, "t0.%d=2,4 ", field) + before + onKind(field, " f0.%d=2,4", field))
		has(t, fmt.Sprint("field ", field), with(loadF(field, refA, 0, field), storeF(refA, 0, field, sum(refC, other)...)), got)
	}
	fill := row(storeF(refA, 0, 3, slot(refA)), storeF(refA, 0, 4, slot(refB)), storeF(refB, 1, 0, slot(refC)), storeF(refB, 1, 3, slot(array)), storeF(refC, 2, 0, slot(other)))
	const filled = "f0.3=0 f0.4=1 f1.0=2 f1.3=3 f2.0=4"
	load := func(what, want string, list ...api.Instr) {
		t.Helper()
		has(t, what, with(append(list, fill...)...), want)
	}
	load("a field of its record", "t0.3=0 "+before+" "+filled, loadF(3, refA, 0, 3))
	load("another field", "t0.4=1 "+before+" "+filled, loadF(4, refA, 0, 4))
	load("a Src of nothing", before+" "+filled, loadF(3, 3, 0, 3))
	load("a site of another record that has such a field, of another Kind", "t0.2=0 t0.4=0 "+before+" "+filled, move(4, refA), loadF(2, 4, 1, 3))
	load("what it brings to its own Src leads on", "t0.3=1,3 "+before+" "+filled, move(3, refB), loadF(3, 3, 0, 3))
	load("that one's is a Real", "t0.3=1 "+before+" "+filled, move(3, refB), loadF(4, 3, 0, 4))
	load("a site of one that has no such field", "t0.3=2 "+before+" "+filled, move(3, refC), loadF(3, 3, 0, 3))
	load("a site of an array", "t0.3=3 "+before+" "+filled, move(3, array), loadF(3, 3, 0, 3))
	load("sites of all", "t0.3=0,1,2,3 "+before+" "+filled, calc(3, sum(refA, refB, refC, array)...), loadF(3, 3, 0, 3))
	load("a field 0 of all", "t0.4=0,1,2,3,4 "+before+" "+filled, calc(4, sum(refA, refB, refC, array)...), loadF(4, 4, 1, 0))
	load("a Dst of whole numbers", "t0.4=1,2 "+before+" "+filled, calc(4, sum(refB, refC)...), loadF(0, 4, 1, 2))
}

// P11.1: a StoreF by way of another record's slot fills no other field, though a LoadF by way of it reads one.
func TestAcrossRecords(t *testing.T) {
	// R 2's field 0 is of R 2, R 1's of R 1.
	c := with(move(4, refC), storeF(4, 1, 0, slot(array)), storeF(refC, 2, 0, slot(other)), loadF(4, 4, 1, 0))
	has(t, "a store of R 1's, by way of a site of R 2", c, "t0.4=2,4 "+before+" f2.0=4")
}

// P11.1: all other instructions bring nothing, whatever they name.
func TestOthers(t *testing.T) {
	whole := func(x api.Instr) api.Instr {
		if x.Op != api.SizeOf {
			x.Items = sum(refA, array)
		}
		return x
	}
	for _, x := range []api.Instr{
		{Op: api.LoadE, Dst: 0, Src: array, Index: sum(refA, other)},
		{Op: api.StoreE, Src: array, Index: sum(refB), Items: sum(refA, other)},
		{Op: api.StoreE, Src: 2, Index: sum(refB), Items: sum(refA, other)},
		{Op: api.SizeOf, Dst: 0, Src: array},
		whole(api.Instr{Op: api.PutInt}), whole(api.Instr{Op: api.PutReal}), whole(api.Instr{Op: api.Zero, To: 3}),
		{Op: api.Jump, To: 1},
	} {
		has(t, fmt.Sprint("Op ", x.Op), with(x), before)
	}
	c := coded(records(), kinds(), within(row(ref(0))), api.Body{Slots: row(ref(0), ints), Code: row(calc(1, slot(0)), idle(), api.Instr{Op: api.Halt})})
	has(t, "no makes", c, "")
}

// P11.1, P11.2: what stands behind a jump, or outside sections, is brought, too.
func TestWherever(t *testing.T) {
	jump := api.Instr{Op: api.Jump, To: 3}
	c := coded(records(), kinds(), within(row(ref(0), ref(0)), jump, makeRec(0, 0), storeG(3, slot(0)), loadG(1, 3)))
	has(t, "over a make", c, "t0.0=0 t0.1=0 g3=0")
	b := within(row(ref(0), ref(0), ref(0)), makeRec(0, 0))
	b.Code = append(append(row(move(1, 0)), b.Code[:len(b.Code)-1]...), move(2, 1), api.Instr{Op: api.Halt})
	has(t, "ahead of a section, and behind it", coded(records(), nil, b), "t0.0=0 t0.1=0 t0.2=0")
}

// P11.1: each make of a slot is kept, though one overwrites the other.
func TestOverwritten(t *testing.T) {
	c := with(move(3, refA), storeG(3, slot(3)), calc(3, push(0)), storeG(3, push(0)), makeRec(3, 0), move(3, array))
	has(t, "nobody, and others, behind", c, "t0.3=0,3,5 "+before+" g3=0,3,5")
}
