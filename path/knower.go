package path

import (
	"slices"

	"padlock/api"
	"padlock/code"
)

// field is a field of a record.
type field struct{ rec, n int }

// knower has what a section does, and what is known of its thread's slots so far.
type knower struct {
	slots   []api.Local
	writers map[int][]api.Instr
	globals map[int]struct{}
	fields  map[field]struct{}
	found   map[int]api.Value
}

// lookAt answers a knower of what a section writes, and stores; nothing is found yet.
func lookAt(c api.Code, s api.Section) knower {
	b := c.Threads[s.Thread]
	k := knower{
		slots:   b.Slots,
		writers: map[int][]api.Instr{},
		globals: map[int]struct{}{},
		fields:  map[field]struct{}{},
		found:   map[int]api.Value{},
	}
	for _, x := range b.Code[s.From : s.To+1] {
		if slot := code.Writes(x); slot >= 0 {
			k.writers[slot] = append(k.writers[slot], x)
		}
		switch x.Op {
		case api.StoreG:
			k.globals[x.N] = struct{}{}
		case api.StoreF:
			k.fields[field{x.Rec, x.N}] = struct{}{}
		}
	}
	return k
}

// known answers what is known of a slot.
func (k knower) known(slot int) api.Value {
	if v, ok := k.found[slot]; ok {
		return v
	}
	// Who comes back here hangs on itself: of that one nothing is known.
	k.found[slot] = api.Value{}
	v := k.find(slot)
	k.found[slot] = v
	return v
}

func (k knower) find(slot int) api.Value {
	switch writers := k.writers[slot]; {
	case len(writers) == 0:
		return way(false, slot)
	case len(writers) == 1 && k.slots[slot].Once:
		return k.by(writers[0])
	}
	return api.Value{}
}

// by answers what is known of a slot by the one instruction that gives it a value.
func (k knower) by(x api.Instr) api.Value {
	switch x.Op {
	case api.DoCalc:
		return k.byCalc(x.Items)
	case api.MakeRec, api.MakeInts:
		return api.Value{Kind: api.Fresh}
	case api.LoadG:
		if _, stored := k.globals[x.N]; !stored {
			return way(true, x.N)
		}
	case api.LoadF:
		return k.byField(x)
	}
	return api.Value{}
}

func (k knower) byCalc(items []api.Item) api.Value {
	if len(items) != 1 || items[0].Op != api.Slot {
		return api.Value{}
	}
	v := k.known(int(items[0].N))
	// The other slot's answer has these fields, too.
	v.Path.Fields = slices.Clone(v.Path.Fields)
	return v
}

func (k knower) byField(x api.Instr) api.Value {
	src := k.known(x.Src)
	_, stored := k.fields[field{x.Rec, x.N}]
	if src.Kind != api.Way || len(src.Path.Fields) >= api.MaxPath || stored {
		return api.Value{}
	}
	return way(src.Path.Global, src.Path.N, append(slices.Clone(src.Path.Fields), x.N)...)
}

func way(global bool, n int, fields ...int) api.Value {
	return api.Value{Kind: api.Way, Path: api.Path{Global: global, N: n, Fields: fields}}
}
