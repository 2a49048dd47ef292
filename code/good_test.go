package code_test

import (
	"fmt"
	"math"
	"reflect"
	"slices"
	"strings"
	"testing"

	"padlock/api"
	"padlock/code"
)

// P9.1: ordinary codes, and those of nearly nothing.
func TestOrdinary(t *testing.T) {
	can(t, "all instructions", full())
	can(t, "nothing", api.Code{})
	can(t, "empty lists", api.Code{Records: [][]api.Local{}, Globals: []api.Local{}, Threads: []api.Body{}, Sites: []api.Site{}, Sections: []api.Section{}})
	can(t, "a Halt alone", alone())
	can(t, "records and globals alone", api.Code{Records: [][]api.Local{{ref(0)}}, Globals: []api.Local{ref(0)}})
	cannot(t, "a LoadG, and a Halt", alone(api.Instr{Op: api.LoadG}))
	cannot(t, "a LoadG of a global that there is, and a Halt", changed(func(c *api.Code) {
		c.Threads[2] = api.Body{Slots: []api.Local{local(api.Int)}, Code: []api.Instr{{Op: api.LoadG}, {Op: api.Halt}}}
	}))
}

// numbers: names of an instruction's fields that aren't rows.
var numbers = []string{"Dst", "Src", "Rec", "N", "To"}

// put: an instruction with a number in a field.
func put(x *api.Instr, field string, n int) {
	reflect.ValueOf(x).Elem().FieldByName(field).SetInt(int64(n))
}

// eachInstr: all instructions of full's thread 1, and what each is called in a message.
func eachInstr(do func(at int, x api.Instr, named []string, what string)) {
	for at, x := range big() {
		do(at, x, strings.Fields(has[x.Op]), fmt.Sprintf("place %d, Op %d", at, x.Op))
	}
}

// P9.1: fields that aren't named for an instruction are 0, and rows empty.
func TestFieldsNotNamed(t *testing.T) {
	eachInstr(func(at int, _ api.Instr, named []string, what string) {
		for _, field := range numbers {
			if slices.Contains(named, field) {
				continue
			}
			for _, n := range []int{1, -1, 2, 7, 1 << 32, math.MaxInt, math.MinInt} {
				cannot(t, fmt.Sprint(what, " ", field, " ", n), instr(at, func(x *api.Instr) { put(x, field, n) }))
			}
		}
		rows := map[string]func(x *api.Instr) *[]api.Item{
			"Items": func(x *api.Instr) *[]api.Item { return &x.Items },
			"Index": func(x *api.Instr) *[]api.Item { return &x.Index },
		}
		for field, of := range rows {
			asked := slices.Contains(named, field)
			is(t, asked, what+" an expression as "+field, instr(at, func(x *api.Instr) { *of(x) = push(0) }))
			is(t, !asked, what+" nothing as "+field, instr(at, func(x *api.Instr) { *of(x) = nil }))
			is(t, !asked, what+" an empty row as "+field, instr(at, func(x *api.Instr) { *of(x) = row() }))
			cannot(t, what+" no expression as "+field, instr(at, func(x *api.Instr) { *of(x) = row(api.Item{}) }))
		}
	})
}

// P9.1: instructions of no Op, bare ones and ones with something.
func TestNoOp(t *testing.T) {
	for _, op := range []int{0, -1, 18, 19, 100, math.MaxInt, math.MinInt, 1<<32 + api.Halt} {
		cannot(t, fmt.Sprint("bare, Op ", op), instr(atPutInt, func(x *api.Instr) { *x = api.Instr{Op: op} }))
		eachInstr(func(at int, _ api.Instr, _ []string, what string) {
			cannot(t, fmt.Sprint(what, " as ", op), instr(at, func(x *api.Instr) { x.Op = op }))
		})
	}
}

// P9.1: any Op in each place: it can be just if the other telling says so.
func TestOtherOps(t *testing.T) {
	good := 0
	eachInstr(func(at int, _ api.Instr, _ []string, what string) {
		for op := range 20 {
			c := instr(at, func(x *api.Instr) { x.Op = op })
			is(t, len(wrongs(c)) == 0, fmt.Sprint(what, " as ", op), c)
			if code.Good(c) {
				good++
			}
		}
	})
	// Each as it was; each print as one of the other kind, as a DoCalc of the slot 0, and as a StoreG to the global 0 in a section, as a Zero to the place 0 outside.
	if want := len(big()) + 9; good != want {
		t.Errorf("%d can be; want %d", good, want)
	}
}

// P9.1: Dst and Src are places of slots, the last one too, and of the Kind and Rec that are asked.
func TestSlots(t *testing.T) {
	eachInstr(func(at int, was api.Instr, named []string, what string) {
		for _, field := range []string{"Dst", "Src"} {
			if !slices.Contains(named, field) {
				continue
			}
			slots := full().Threads[1].Slots
			old := slots[reflect.ValueOf(was).FieldByName(field).Int()]
			for _, n := range beside(len(slots)) {
				cannot(t, fmt.Sprint(what, " ", field, " ", n), instr(at, func(x *api.Instr) { put(x, field, n) }))
			}
			for n, s := range slots {
				fits := was.Op == api.DoCalc || s.Kind == old.Kind && s.Rec == old.Rec
				is(t, fits, fmt.Sprint(what, " ", field, " ", n), instr(at, func(x *api.Instr) { put(x, field, n) }))
			}
			for _, last := range []api.Local{old, once(old)} {
				can(t, what+" the last slot as "+field, changed(func(c *api.Code) {
					put(&c.Threads[1].Code[at], field, len(slots))
					c.Threads[1].Slots = append(c.Threads[1].Slots, last)
				}))
			}
		}
	})
	cannot(t, "no slots at all", api.Code{Threads: []api.Body{{Code: []api.Instr{{Op: api.DoCalc, Items: push(0)}, {Op: api.Halt}}}}})
	cannot(t, "a slot that another thread has", changed(func(c *api.Code) { c.Threads[0].Code[0].Dst = 2 }))
}

// P9.1: globals' places, their kinds, and their records.
func TestGlobals(t *testing.T) {
	for _, n := range beside(5) {
		cannot(t, fmt.Sprint("LoadG of ", n), instr(atLoadG, func(x *api.Instr) { x.N = n }))
		cannot(t, fmt.Sprint("StoreG of ", n), instr(atStoreG, func(x *api.Instr) { x.N = n }))
	}
	for n := range 5 {
		can(t, fmt.Sprint("StoreG of ", n), instr(atStoreG, func(x *api.Instr) { x.N = n }))
		for dst, s := range full().Threads[1].Slots {
			fits := s.Kind == full().Globals[n].Kind && s.Rec == full().Globals[n].Rec
			is(t, fits, fmt.Sprintf("LoadG of %d to %d", n, dst), instr(atLoadG, func(x *api.Instr) { x.N, x.Dst = n, dst }))
		}
	}
	cannot(t, "StoreG without globals", changed(func(c *api.Code) {
		c.Threads[1].Code[atLoadG] = api.Instr{Op: api.PutInt, Items: push(0)}
		c.Threads[1].Code[atStoreG].N, c.Globals = 0, nil
	}))
}

// fieldCode: full with a load, or a store, of a field, through a new slot; the record 2 has one field.
func fieldCode(op, srcRec, rec, n int) api.Code {
	return changed(func(c *api.Code) {
		c.Records[2] = []api.Local{local(api.Ints)}
		b := &c.Threads[1]
		src, dst := len(b.Slots), len(b.Slots)+1
		b.Slots = append(b.Slots, ref(srcRec), local(api.Int))
		if rec >= 0 && rec < 3 && n >= 0 && n < len(c.Records[rec]) {
			b.Slots[dst] = c.Records[rec][n]
		}
		x := api.Instr{Op: op, Src: src, Rec: rec, N: n}
		if op == api.LoadF {
			x.Dst = dst
		} else {
			x.Items = push(0)
		}
		b.Code[atLoadF] = x
	})
}

// P9.1: a field is one of the record that the Src is a Ref of.
func TestFields(t *testing.T) {
	lengths := []int{3, 2, 1}
	for _, op := range []int{api.LoadF, api.StoreF} {
		for rec, length := range lengths {
			for n := range length {
				can(t, fmt.Sprintf("Op %d of %d, %d", op, rec, n), fieldCode(op, rec, rec, n))
				for other := range 3 {
					is(t, other == rec, fmt.Sprintf("Op %d of %d, %d, Src of %d", op, rec, n, other), fieldCode(op, other, rec, n))
				}
			}
			for _, n := range beside(length) {
				cannot(t, fmt.Sprintf("Op %d of %d, %d", op, rec, n), fieldCode(op, rec, rec, n))
			}
		}
		for _, rec := range beside(3) {
			for src := range 3 {
				cannot(t, fmt.Sprintf("Op %d of %d", op, rec), fieldCode(op, src, rec, 0))
			}
			cannot(t, fmt.Sprintf("Op %d of %d, Src too", op, rec), fieldCode(op, rec, rec, 0))
		}
	}
	for dst, s := range full().Threads[1].Slots {
		is(t, s.Kind == api.Ref && s.Rec == 1, fmt.Sprint("LoadF to ", dst), instr(atLoadF, func(x *api.Instr) { x.Dst = dst }))
	}
	cannot(t, "LoadF of a record without fields", changed(func(c *api.Code) {
		c.Threads[1].Slots[onceA] = ref(2)
		c.Threads[1].Code[atLoadF] = api.Instr{Op: api.LoadF, Dst: anInt, Src: onceA, Rec: 2}
	}))
}

// P9.1: Items and Index are expressions, of as many slots as there are.
func TestExpressions(t *testing.T) {
	add := api.Item{Op: api.BinInt}
	most := append(push(1), times(63, api.Item{Op: api.NegInt})...)
	rows := []struct {
		items []api.Item
		good  bool
	}{
		{push(math.MaxUint64), true}, {slot(0), true}, {slot(uint64(otherInts)), true}, {row(api.Item{Op: api.In, N: 15}), true},
		{slices.Concat(slot(0), slot(1), row(add)), true}, {most, true},
		{slot(9), false}, {slot(10), false}, {slot(64), false}, {slot(math.MaxUint64), false}, {row(api.Item{Op: api.In, N: 16}), false},
		{slices.Concat(push(1), push(2)), false}, {row(add), false}, {slices.Concat(push(1), row(add)), false},
		{append(most[:64:64], api.Item{Op: api.NegInt}), false}, {row(api.Item{Op: 11}), false}, {row(api.Item{Op: api.Push, Bin: 1}), false},
	}
	eachInstr(func(at int, _ api.Instr, named []string, what string) {
		for _, r := range rows {
			if slices.Contains(named, "Items") {
				is(t, r.good, fmt.Sprint(what, " Items ", r.items), instr(at, func(x *api.Instr) { x.Items = r.items }))
			}
			if slices.Contains(named, "Index") {
				is(t, r.good, fmt.Sprint(what, " Index ", r.items), instr(at, func(x *api.Instr) { x.Index = r.items }))
			}
		}
	})
	// As many slots as that thread has, not another one.
	is(t, true, "the last slot of two", changed(func(c *api.Code) { c.Threads[0].Code[0].Items = slot(1) }))
	is(t, false, "a third slot of two", changed(func(c *api.Code) { c.Threads[0].Code[0].Items = slot(2) }))
}

// P9.1: no instruction; where a Halt may stand.
func TestHalt(t *testing.T) {
	cannot(t, "no instruction", changed(func(c *api.Code) { c.Threads[2].Code = nil }))
	cannot(t, "an empty row", changed(func(c *api.Code) { c.Threads[2].Code = []api.Instr{} }))
	cannot(t, "a thread of nothing", api.Code{Threads: []api.Body{{}}})
	cannot(t, "two Halts", alone(api.Instr{Op: api.Halt}))
	cannot(t, "a Halt that goes on", instr(atHalt, func(x *api.Instr) { *x = api.Instr{Op: api.Jump} }))
	cannot(t, "a print at the end", instr(atHalt, func(x *api.Instr) { *x = api.Instr{Op: api.PutInt, Items: push(0)} }))
	cannot(t, "no Halt", api.Code{Threads: []api.Body{{Code: []api.Instr{{Op: api.PutInt, Items: push(0)}}}}})
	eachInstr(func(at int, _ api.Instr, _ []string, what string) {
		is(t, at == atHalt, what+" as a Halt", instr(at, func(x *api.Instr) { *x = api.Instr{Op: api.Halt} }))
	})
	cannot(t, "a section up to the end", api.Code{
		Threads:  []api.Body{{Code: []api.Instr{{Op: api.Begin}, {Op: api.Leave}}}},
		Sections: []api.Section{{From: 0, To: 1}},
	})
	cannot(t, "a Halt in a section", api.Code{
		Threads:  []api.Body{{Code: []api.Instr{{Op: api.Begin}, {Op: api.Halt}}}},
		Sections: []api.Section{{From: 0, To: 1}},
	})
}

// P9.1: loads, stores and makes stand in sections alone, all others outside, too.
func TestInSectionsAlone(t *testing.T) {
	for _, at := range []int{atLoadG, atLoadF, atStoreF, atMakeRec, atMakeInts, atLoadE, atStoreE, atStoreG} {
		for _, to := range []int{atCalc, atZero, atSizeOf, atPutInt, atPutReal, atJump} {
			cannot(t, fmt.Sprintf("%d at %d", at, to), changed(func(c *api.Code) {
				moveTo(c, at, to)
			}))
		}
		// From a place of one section to one of another it may go.
		can(t, fmt.Sprintf("%d in another section", at), changed(func(c *api.Code) { moveTo(c, at, atPutInt0) }))
		can(t, fmt.Sprintf("%d in another section", at), changed(func(c *api.Code) { moveTo(c, at, atJump2) }))
	}
	for _, at := range []int{atCalc, atSizeOf0, atPutInt, atPutReal} {
		for _, to := range []int{atCalc, atLoadG, atJump2, atPutInt0, atSizeOf, atJump} {
			can(t, fmt.Sprintf("%d at %d", at, to), changed(func(c *api.Code) { moveTo(c, at, to) }))
		}
	}
}

// moveTo puts what stands at a place of thread 1 at another one, and a print where it was; sites go with it.
func moveTo(c *api.Code, at, to int) {
	list := c.Threads[1].Code
	if at != to {
		list[to], list[at] = list[at], api.Instr{Op: api.PutInt, Items: push(0)}
	}
	for i, s := range c.Sites {
		if s.Thread == 1 && s.At == at {
			c.Sites[i].At = to
		} else if s.Thread == 1 && s.At == to { // what is overwritten there was made at that site
			c.Sites[i].At = at
			list[at] = big()[to]
		}
	}
}

// P9.1: jumps to each place, from each stand.
func TestJumps(t *testing.T) {
	for _, at := range []int{atCalc, atZero, atPutInt, atJump, atLoadG, atJump2, atZero0, atPutInt0} {
		jumps := []api.Instr{{Op: api.Jump}, {Op: api.Zero, Items: push(0)}}
		for _, jump := range jumps {
			for to := range stands {
				jump.To = to
				what := fmt.Sprintf("Op %d at %d to %d", jump.Op, at, to)
				is(t, stands[at] == stands[to], what, instr(at, func(x *api.Instr) { *x = jump }))
			}
			for _, to := range beside(len(stands)) {
				jump.To = to
				cannot(t, fmt.Sprintf("Op %d at %d to %d", jump.Op, at, to), instr(at, func(x *api.Instr) { *x = jump }))
			}
		}
	}
	for _, at := range []int{atBegin0, atLeave0, atBegin2, atLeave2} {
		for to := range stands {
			cannot(t, fmt.Sprintf("a Jump in place of %d", at), instr(at, func(x *api.Instr) { *x = api.Instr{Op: api.Jump, To: to} }))
		}
		for _, to := range []int{1, at, at + 1} {
			cannot(t, fmt.Sprintf("%d with a To", at), instr(at, func(x *api.Instr) { x.To = to }))
		}
	}
	cannot(t, "to a place of a longer thread", changed(func(c *api.Code) { c.Threads[0].Code[0] = api.Instr{Op: api.Jump, To: 5} }))
	can(t, "to itself", alone(api.Instr{Op: api.Jump}))
}
