package code_test

import (
	"math"
	"slices"
	"testing"

	"padlock/api"
	"padlock/code"
)

func row(items ...api.Item) []api.Item { return items }

func push(n uint64) []api.Item { return row(api.Item{Op: api.Push, N: n}) }

func slot(n uint64) []api.Item { return row(api.Item{Op: api.Slot, N: n}) }

func local(kind int) api.Local { return api.Local{Kind: kind} }

func ref(rec int) api.Local { return api.Local{Kind: api.Ref, Rec: rec} }

func once(l api.Local) api.Local {
	l.Once = true
	return l
}

// Slots of full's thread 1.
const (
	anInt = iota
	aReal
	ints
	refA
	refB
	onceInt
	onceA
	otherB
	otherInts
)

// Places of full's thread 1.
const (
	atCalc = iota
	atZero
	atBegin2
	atLoadG
	atLoadF
	atStoreF
	atMakeRec
	atJump2
	atLeave2
	atBegin0
	atMakeInts
	atLoadE
	atStoreE
	atStoreG
	atZero0
	atCalc0
	atSizeOf0
	atPutInt0
	atLeave0
	atSizeOf
	atPutInt
	atPutReal
	atJump
	atHalt
)

// stands: in which section each place of full's thread 1 stands.
const stands = "...222222.000000000....."

// full: a code with all instructions, new memory each time. Numbers of records, sites and sections go crosswise, so that one can't be taken for another.
func full() api.Code {
	return api.Code{
		Records: [][]api.Local{{local(api.Int), ref(1), local(api.Ints)}, {local(api.Real), ref(0)}, {}},
		Globals: []api.Local{local(api.Int), local(api.Real), local(api.Ints), ref(0), ref(1)},
		Threads: []api.Body{
			{Slots: []api.Local{local(api.Ints), local(api.Int)}, Most: 5, Code: []api.Instr{
				{Op: api.DoCalc, Dst: 1, Items: push(1)},
				{Op: api.Begin, N: 1},
				{Op: api.MakeInts, N: 2, Items: push(2)},
				{Op: api.Leave, N: 1},
				{Op: api.Halt},
			}},
			{Slots: []api.Local{
				local(api.Int), local(api.Real), local(api.Ints), ref(0), ref(1),
				once(local(api.Int)), once(ref(0)), ref(1), local(api.Ints),
			}, Most: 40, Code: big()},
			{Code: []api.Instr{{Op: api.Halt}}},
		},
		Sites:    []api.Site{{Thread: 1, At: atMakeInts, Rec: -1}, {Thread: 1, At: atMakeRec, Rec: 1}, {Thread: 0, At: 2, Rec: -1}},
		Sections: []api.Section{{Thread: 1, From: atBegin0, To: atLeave0}, {Thread: 0, From: 1, To: 3}, {Thread: 1, From: atBegin2, To: atLeave2}},
	}
}

// big: the instructions of full's thread 1.
func big() []api.Instr {
	return []api.Instr{
		atCalc:     {Op: api.DoCalc, Dst: aReal, Items: push(0)},
		atZero:     {Op: api.Zero, To: atBegin0, Items: slot(anInt)},
		atBegin2:   {Op: api.Begin, N: 2},
		atLoadG:    {Op: api.LoadG, Dst: refA, N: 3},
		atLoadF:    {Op: api.LoadF, Dst: otherB, Src: refA, Rec: 0, N: 1},
		atStoreF:   {Op: api.StoreF, Src: refB, Rec: 1, N: 1, Items: slot(refA)},
		atMakeRec:  {Op: api.MakeRec, Dst: refB, Rec: 1, N: 1},
		atJump2:    {Op: api.Jump, To: atLeave2},
		atLeave2:   {Op: api.Leave, N: 2},
		atBegin0:   {Op: api.Begin, N: 0},
		atMakeInts: {Op: api.MakeInts, Dst: ints, N: 0, Items: push(3)},
		atLoadE:    {Op: api.LoadE, Dst: anInt, Src: ints, Index: push(0)},
		atStoreE:   {Op: api.StoreE, Src: ints, Index: push(1), Items: slot(anInt)},
		atStoreG:   {Op: api.StoreG, N: 4, Items: slot(refB)},
		atZero0:    {Op: api.Zero, To: atLoadE, Items: slot(anInt)},
		atCalc0:    {Op: api.DoCalc, Dst: onceInt, Items: push(1)},
		atSizeOf0:  {Op: api.SizeOf, Dst: anInt, Src: ints},
		atPutInt0:  {Op: api.PutInt, Items: slot(anInt)},
		atLeave0:   {Op: api.Leave, N: 0},
		atSizeOf:   {Op: api.SizeOf, Dst: anInt, Src: otherInts},
		atPutInt:   {Op: api.PutInt, Items: slot(anInt)},
		atPutReal:  {Op: api.PutReal, Items: slot(aReal)},
		atJump:     {Op: api.Jump, To: atBegin2},
		atHalt:     {Op: api.Halt},
	}
}

// changed: full with something changed.
func changed(change func(c *api.Code)) api.Code {
	c := full()
	change(&c)
	return c
}

// instr: full with something changed at a place of its thread 1.
func instr(at int, change func(x *api.Instr)) api.Code {
	return changed(func(c *api.Code) { change(&c.Threads[1].Code[at]) })
}

// is: that a code can be, just if it is wanted; the other telling must say so, too.
func is(t *testing.T, want bool, what string, c api.Code) {
	t.Helper()
	if got := code.Good(c); got != want {
		t.Errorf("%s: %v", what, got)
	}
	if wrong := wrongs(c); (len(wrong) == 0) != want {
		t.Errorf("%s: the other telling finds %q", what, wrong)
	}
}

func can(t *testing.T, what string, c api.Code) {
	t.Helper()
	is(t, true, what, c)
}

func cannot(t *testing.T, what string, c api.Code) {
	t.Helper()
	is(t, false, what, c)
}

// beside: numbers that are no places of a list.
func beside(length int) []int {
	return []int{-1, -2, math.MinInt, length, length + 1, math.MaxInt, 1 << 32, math.MinInt + 1<<32}
}

// alone: a code of one thread, with those instructions, and a Halt behind them.
func alone(list ...api.Instr) api.Code {
	return api.Code{Threads: []api.Body{{Code: append(slices.Clone(list), api.Instr{Op: api.Halt})}}}
}

// times: the same thing some times.
func times[T any](n int, x T) []T { return slices.Repeat([]T{x}, n) }
