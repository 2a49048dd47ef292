package pts

import (
	"padlock/api"
	"padlock/calc"
	"padlock/code"
)

// solver lets the sets of a code grow until all that its instructions do is in them.
type solver struct {
	api.Code
	sets api.Sets
	grew bool
}

// step is an instruction that brings something to a set, its thread, and the slots that its Items name.
type step struct {
	api.Instr
	thread int
	named  []int
}

// stepsOf answers the instructions of a code that bring something to sets that may have something.
func stepsOf(c api.Code) []step {
	var steps []step
	for thread, b := range c.Threads {
		for _, x := range b.Code {
			if kind := targetOf(c, b, x).Kind; kind == api.Ref || kind == api.Ints {
				steps = append(steps, step{x, thread, calc.Uses(x.Items...)})
			}
		}
	}
	return steps
}

// targetOf answers to what an instruction brings something; of no Kind: to nothing of which there is a set.
func targetOf(c api.Code, b api.Body, x api.Instr) api.Local {
	if dst := code.Writes(x); dst >= 0 {
		return b.Slots[dst]
	}
	switch x.Op {
	case api.StoreG:
		return c.Globals[x.N]
	case api.StoreF:
		return c.Records[x.Rec][x.N]
	}
	return api.Local{}
}

// do brings what an instruction does, as far as the sets tell it by now.
func (s *solver) do(x step) {
	slots := s.sets.Slots[x.thread]
	switch x.Op {
	case api.DoCalc:
		s.bring(s.meant(x), &slots[x.Dst])
	case api.LoadG:
		s.bring(s.sets.Globals[x.N], &slots[x.Dst])
	case api.StoreG:
		s.bring(s.meant(x), &s.sets.Globals[x.N])
	case api.LoadF:
		for site := range Each(slots[x.Src]) {
			// Items may bring things of any record to Src, and arrays.
			if fields := s.sets.Fields[site]; x.N < len(fields) {
				s.bring(fields[x.N], &slots[x.Dst])
			}
		}
	case api.StoreF:
		for site := range Each(slots[x.Src]) {
			if s.Sites[site].Rec == x.Rec {
				s.bring(s.meant(x), &s.sets.Fields[site][x.N])
			}
		}
	case api.MakeRec, api.MakeInts:
		s.bring(1<<x.N, &slots[x.Dst])
	}
}

// meant answers what the Items of an instruction may mean.
func (s *solver) meant(x step) uint64 {
	var all uint64
	for _, slot := range x.named {
		all |= s.sets.Slots[x.thread][slot]
	}
	return all
}

func (s *solver) bring(more uint64, to *uint64) {
	was := *to
	*to |= more
	s.grew = s.grew || *to != was
}
