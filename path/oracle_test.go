package path_test

import (
	"fmt"
	"slices"
	"strings"
	"testing"

	"padlock/api"
	"padlock/code"
)

// insideOf: the instructions that stand in a section, the Leave too.
func insideOf(c api.Code, section int) []api.Instr {
	s := c.Sections[section]
	var out []api.Instr
	for at, x := range c.Threads[s.Thread].Code {
		if code.Inside(c, s.Thread, at) == section {
			out = append(out, x)
		}
	}
	return out
}

// told: what is known of each slot, told another way: nothing is known at first, and what follows from what is known comes to be so, till nothing more does.
func told(c api.Code, section int) []string {
	b, list := c.Threads[c.Sections[section].Thread], insideOf(c, section)
	out := times(len(b.Slots), "?")
	for n, l := range b.Slots {
		if how := givers(list, n); len(how) == 0 {
			out[n] = fmt.Sprint("s", n)
		} else if len(how) > 1 || !l.Once {
			out[n] = "never"
		}
	}
	for grown := true; grown; {
		grown = false
		for n := range out {
			if out[n] == "?" {
				out[n] = follows(givers(list, n)[0], list, out)
				grown = grown || out[n] != "?"
			}
		}
	}
	for n := range out {
		if out[n] == "never" {
			out[n] = "?"
		}
	}
	return out
}

// givers: the instructions that give a slot a value.
func givers(list []api.Instr, n int) []api.Instr {
	ops := row(api.DoCalc, api.LoadG, api.LoadF, api.LoadE, api.MakeRec, api.MakeInts, api.SizeOf)
	var out []api.Instr
	for _, x := range list {
		if slices.Contains(ops, x.Op) && x.Dst == n {
			out = append(out, x)
		}
	}
	return out
}

// follows: what is known by an instruction, as far as so much is known; never: nothing will be.
func follows(x api.Instr, list []api.Instr, known []string) string {
	stores := func(op int) bool {
		return slices.ContainsFunc(list, func(y api.Instr) bool { return y.Op == op && y.Rec == x.Rec && y.N == x.N })
	}
	switch {
	case x.Op == api.DoCalc && len(x.Items) == 1 && x.Items[0].Op == api.Slot:
		return known[x.Items[0].N]
	case x.Op == api.MakeRec || x.Op == api.MakeInts:
		return "new"
	case x.Op == api.LoadG && !stores(api.StoreG):
		return fmt.Sprint("g", x.N)
	case x.Op == api.LoadF && !stores(api.StoreF):
		from := known[x.Src]
		if from == "?" {
			return from
		}
		if (from[0] == 's' || from[0] == 'g') && strings.Count(from, ".") < 3 {
			return from + fmt.Sprint(".", x.N)
		}
	}
	return "never"
}

// kept: whether all that moves from slot to slot in a code is of one Kind, and one record.
func kept(c api.Code) bool {
	for _, b := range c.Threads {
		for _, x := range b.Code {
			if x.Op == api.DoCalc && len(x.Items) == 1 && x.Items[0].Op == api.Slot {
				from, to := b.Slots[x.Items[0].N], b.Slots[x.Dst]
				if from.Kind != to.Kind || from.Rec != to.Rec {
					return false
				}
			}
		}
	}
	return true
}

// unstored: P13.2: that no path is too long, and that what it goes by isn't stored in the section; that it ends with what is of the slot's Kind.
func unstored(t *testing.T, c api.Code, section int, known []api.Value) {
	t.Helper()
	slots, list := c.Threads[c.Sections[section].Thread].Slots, insideOf(c, section)
	for n, v := range known {
		if len(v.Path.Fields) > 3 {
			t.Fatalf("%+v: of the slot %d a path of %d fields", c, n, len(v.Path.Fields))
		}
		if v.Kind != api.Way || !kept(c) {
			continue
		}
		at := api.Local{}
		if v.Path.Global {
			at = c.Globals[v.Path.N]
		} else {
			at = slots[v.Path.N]
		}
		for _, field := range v.Path.Fields {
			if at.Kind != api.Ref {
				t.Fatalf("%+v: %s goes by a field of what is no record", c, valueText(v))
			}
			if slices.ContainsFunc(list, func(x api.Instr) bool { return x.Op == api.StoreF && x.Rec == at.Rec && x.N == field }) {
				t.Fatalf("%+v: %s goes by the field %d of %d, that is stored", c, valueText(v), field, at.Rec)
			}
			at = c.Records[at.Rec][field]
		}
		if at.Kind != slots[n].Kind || at.Rec != slots[n].Rec {
			t.Fatalf("%+v: %s leads to %+v, but the slot %d is %+v", c, valueText(v), at, n, slots[n])
		}
	}
}
