package code_test

import (
	"reflect"
	"slices"
	"strings"

	"padlock/api"
	"padlock/calc"
)

// has: the chapter's table: what each instruction has, by the names of api's fields.
var has = map[int]string{
	api.DoCalc:   "Dst Items",
	api.LoadG:    "Dst N",
	api.LoadF:    "Dst Src Rec N",
	api.LoadE:    "Dst Src Index",
	api.StoreG:   "N Items",
	api.StoreF:   "Src Rec N Items",
	api.StoreE:   "Src Index Items",
	api.MakeRec:  "Dst Rec N",
	api.MakeInts: "Dst Items N",
	api.SizeOf:   "Dst Src",
	api.PutInt:   "Items",
	api.PutReal:  "Items",
	api.Jump:     "To",
	api.Zero:     "To Items",
	api.Begin:    "N",
	api.Leave:    "N",
	api.Halt:     "",
}

// sharedOps: those that stand in sections alone.
var sharedOps = []int{api.LoadG, api.LoadF, api.LoadE, api.StoreG, api.StoreF, api.StoreE, api.MakeRec, api.MakeInts}

// reasons: all that wrongs may find.
var reasons = []string{
	"records", "fields", "globals", "threads", "sites", "sections", "slots", "instructions", "most",
	"local", "once", "section's place", "section's end", "sections meet", "site's place",
	"halt", "op", "more", "expression", "dst", "src", "kind of dst", "kind of src", "global", "rec", "field", "site", "section", "target", "outside",
}

// judge: what is wrong with a code, told by painting places and asking tables.
type judge struct {
	api.Code
	painted [][]int // of each thread's places: the section; -1: none
	wrong   map[string]bool
}

// wrongs: what of the chapter a code doesn't hold to, each thing once, in order; none, if it can be.
func wrongs(c api.Code) []string {
	j := judge{Code: c, wrong: map[string]bool{}}
	j.numbers()
	j.locals()
	j.sections()
	j.sites()
	for k, b := range c.Threads {
		for at, x := range b.Code {
			j.instr(k, at, x)
		}
	}
	var out []string
	for what := range j.wrong {
		out = append(out, what)
	}
	slices.Sort(out)
	return out
}

func (j *judge) must(holds bool, what string) bool {
	if !holds {
		j.wrong[what] = true
	}
	return holds
}

func (j *judge) numbers() {
	j.must(len(j.Records) < 7, "records")
	for _, fields := range j.Records {
		j.must(len(fields) < 7, "fields")
	}
	j.must(len(j.Globals) < 9, "globals")
	j.must(len(j.Threads) < 5, "threads")
	j.must(len(j.Sites) < 33, "sites")
	j.must(len(j.Sections) < 33, "sections")
	for _, b := range j.Threads {
		j.must(len(b.Slots) < 65, "slots")
		j.must(len(b.Code) > 0 && len(b.Code) < 257, "instructions")
		j.must(b.Most > -1 && b.Most < 4097, "most")
	}
}

func (j *judge) locals() {
	cells := slices.Concat(j.Records...)
	cells = append(cells, j.Globals...)
	for _, l := range cells {
		j.must(!l.Once, "once")
	}
	for _, b := range j.Threads {
		cells = append(cells, b.Slots...)
	}
	for _, l := range cells {
		j.must(slices.Contains(j.allLocals(), api.Local{Kind: l.Kind, Rec: l.Rec}), "local")
	}
}

// allLocals: all kinds of locals that can be.
func (j *judge) allLocals() []api.Local {
	out := []api.Local{{Kind: 1}, {Kind: 2}, {Kind: 3}}
	for rec := range j.Records {
		out = append(out, api.Local{Kind: 4, Rec: rec})
	}
	return out
}

// sections paints the places of each section, first for what they have in common, then for what stands in them.
func (j *judge) sections() {
	var taken [][]bool
	for _, b := range j.Threads {
		taken = append(taken, make([]bool, len(b.Code)))
		j.painted = append(j.painted, slices.Repeat([]int{-1}, len(b.Code)))
	}
	for n, s := range j.Sections {
		if !j.must(within(s.Thread, len(j.Threads)), "section's place") {
			continue
		}
		list := j.Threads[s.Thread].Code
		if !j.must(within(s.From, len(list)) && within(s.To, len(list)) && s.From < s.To, "section's place") {
			continue
		}
		j.must(list[s.From].Op == api.Begin && list[s.From].N == n && list[s.To].Op == api.Leave && list[s.To].N == n, "section's end")
		for at := s.From; at <= s.To; at++ {
			j.must(!taken[s.Thread][at], "sections meet")
			taken[s.Thread][at] = true
			if at > s.From && j.painted[s.Thread][at] < 0 {
				j.painted[s.Thread][at] = n
			}
		}
	}
}

func (j *judge) sites() {
	for n, s := range j.Sites {
		ok := within(s.Thread, len(j.Threads)) && within(s.At, len(j.Threads[s.Thread].Code))
		if ok {
			x := j.Threads[s.Thread].Code[s.At]
			ok = (x.Op == api.MakeRec || x.Op == api.MakeInts) && x.N == n
		}
		j.must(ok, "site's place")
	}
}

func within(at, length int) bool { return 0 <= at && at < length }

func (j *judge) instr(thread, at int, x api.Instr) {
	b := j.Threads[thread]
	j.must((x.Op == api.Halt) == (at+1 == len(b.Code)), "halt")
	named, ok := has[x.Op]
	if !j.must(ok, "op") {
		return
	}
	j.must(bare(x, named), "more")
	in := j.painted[thread][at]
	j.must(in >= 0 || !slices.Contains(sharedOps, x.Op), "outside")
	for _, name := range strings.Fields(named) {
		switch name {
		case "Dst":
			j.must(within(x.Dst, len(b.Slots)), "dst")
		case "Src":
			j.must(within(x.Src, len(b.Slots)), "src")
		case "Rec":
			j.must(within(x.Rec, len(j.Records)), "rec")
		case "Items":
			j.must(calc.Good(len(b.Slots), x.Items...), "expression")
		case "Index":
			j.must(calc.Good(len(b.Slots), x.Index...), "expression")
		case "To":
			j.must(within(x.To, len(b.Code)) && j.painted[thread][x.To] == in, "target")
		}
	}
	j.meaning(thread, at, x)
}

// bare: whether nothing is left of an instruction without its Op and the fields of those names.
func bare(x api.Instr, named string) bool {
	v := reflect.ValueOf(&x).Elem()
	for _, name := range append(strings.Fields(named), "Op") {
		v.FieldByName(name).SetZero()
	}
	left := 0
	for i := range v.NumField() {
		if f := v.Field(i); f.Kind() == reflect.Slice && f.Len() > 0 || f.Kind() != reflect.Slice && !f.IsZero() {
			left++
		}
	}
	return left == 0
}

// meaning: what N must be a place of, and what kinds Dst and Src must be of.
func (j *judge) meaning(thread, at int, x api.Instr) {
	dst, src := api.Local{}, api.Local{}
	switch x.Op {
	case api.LoadG, api.StoreG:
		if j.must(within(x.N, len(j.Globals)), "global") && x.Op == api.LoadG {
			dst = j.Globals[x.N]
		}
	case api.LoadF, api.StoreF:
		src = api.Local{Kind: api.Ref, Rec: x.Rec}
		if within(x.Rec, len(j.Records)) && j.must(within(x.N, len(j.Records[x.Rec])), "field") && x.Op == api.LoadF {
			dst = j.Records[x.Rec][x.N]
		}
	case api.LoadE, api.SizeOf:
		dst, src = api.Local{Kind: api.Int}, api.Local{Kind: api.Ints}
	case api.StoreE:
		src = api.Local{Kind: api.Ints}
	case api.MakeRec:
		dst = api.Local{Kind: api.Ref, Rec: x.Rec}
		j.must(j.siteIs(x.N, thread, at, x.Rec), "site")
	case api.MakeInts:
		dst = api.Local{Kind: api.Ints}
		j.must(j.siteIs(x.N, thread, at, -1), "site")
	case api.Begin:
		j.must(within(x.N, len(j.Sections)) && j.Sections[x.N].Thread == thread && j.Sections[x.N].From == at, "section")
	case api.Leave:
		j.must(within(x.N, len(j.Sections)) && j.Sections[x.N].Thread == thread && j.Sections[x.N].To == at, "section")
	}
	j.kind(thread, x.Dst, dst, "kind of dst")
	j.kind(thread, x.Src, src, "kind of src")
}

// kind: that a slot, if it is one, is of a kind, if one is asked for.
func (j *judge) kind(thread, at int, of api.Local, what string) {
	if slots := j.Threads[thread].Slots; of.Kind != 0 && within(at, len(slots)) {
		j.must(slots[at].Kind == of.Kind && slots[at].Rec == of.Rec, what)
	}
}

func (j *judge) siteIs(n, thread, at, rec int) bool {
	if !within(n, len(j.Sites)) {
		return false
	}
	s := j.Sites[n]
	return s.Thread == thread && s.At == at && s.Rec == rec
}
