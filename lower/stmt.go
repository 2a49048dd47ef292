package lower

import (
	"slices"

	"padlock/api"
	"padlock/num"
)

// block writes the statements of a block, and answers how many steps they make at most.
func (w *writer) block(list []api.Stmt) int {
	before := len(w.locals)
	steps := 0
	for _, s := range list {
		if w.tooGreat() {
			break
		}
		steps = min(steps+w.stmt(s), tooMany)
	}
	w.locals = w.locals[:before]
	return steps
}

// stmt writes a statement, and answers how many steps it makes at most.
func (w *writer) stmt(s api.Stmt) int {
	switch s.Op {
	case api.Let, api.VarStmt:
		w.given(s)
	case api.Assign:
		x, _ := w.right(s.Right)
		x.Dst = w.seen(s.Name).slot
		w.put(x)
	case api.Set:
		x, _ := w.place(s.Place, api.StoreG, api.StoreF, api.StoreE)
		x.Items, _ = w.items(s.E)
		w.put(x)
	case api.Print:
		w.print(s)
	case api.If:
		return w.choice(s)
	case api.Loop:
		return w.loop(s)
	case api.Break, api.Continue:
		w.leave(s)
	case api.Atomic:
		return w.atomic(s)
	case api.Call:
		return w.call(s)
	}
	return 1
}

// given writes a Let or a VarStmt. Its name is seen only behind it.
func (w *writer) given(s api.Stmt) {
	x, t := w.right(s.Right)
	x.Dst = w.slot(t, s.Op == api.Let)
	w.put(x)
	w.locals = append(w.locals, local{s.Name, x.Dst, t})
}

func (w *writer) print(s api.Stmt) {
	items, t := w.items(s.E)
	op := api.PutInt
	if t.Kind == api.Real {
		op = api.PutReal
	}
	w.put(api.Instr{Op: op, Items: items})
}

func (w *writer) choice(s api.Stmt) int {
	items, _ := w.items(s.E)
	behindBody := w.putAhead(api.Instr{Op: api.Zero, Items: items})
	steps := w.block(s.Body)
	if len(s.Else) == 0 {
		behindBody()
		return 1 + steps
	}
	behindElse := w.putAhead(api.Instr{Op: api.Jump})
	behindBody()
	others := w.block(s.Else)
	behindElse()
	return 1 + max(steps+1, others)
}

// loop writes a loop, with a slot that tells how many turns are left.
func (w *writer) loop(s api.Stmt) int {
	left := w.slot(whole, false)
	ofLeft := api.Item{Op: api.Slot, N: uint64(left)}
	less := []api.Item{ofLeft, {Op: api.Push, N: 1}, {Op: api.BinInt, Bin: int(num.Sub)}}
	w.put(api.Instr{Op: api.DoCalc, Dst: left, Items: []api.Item{{Op: api.Push, N: uint64(s.N)}}})
	l := &loop{label: s.Name, begin: w.here()}
	l.ends = append(l.ends, w.putAhead(api.Instr{Op: api.Zero, Items: []api.Item{ofLeft}}))
	w.put(api.Instr{Op: api.DoCalc, Dst: left, Items: less})
	w.loops = append(w.loops, l)
	steps := w.block(s.Body)
	w.loops = w.loops[:len(w.loops)-1]
	w.put(api.Instr{Op: api.Jump, To: l.begin})
	for _, end := range l.ends {
		end()
	}
	return 2 + s.N*(3+steps)
}

// leave writes a Break or a Continue. Of two loops with its label, with a section between, the inner one is meant.
func (w *writer) leave(s api.Stmt) {
	for _, l := range slices.Backward(w.loops) {
		if s.Name != "" && s.Name != l.label {
			continue
		}
		if s.Op == api.Break {
			l.ends = append(l.ends, w.putAhead(api.Instr{Op: api.Jump}))
		} else {
			w.put(api.Instr{Op: api.Jump, To: l.begin})
		}
		return
	}
}

func (w *writer) atomic(s api.Stmt) int {
	if w.inside {
		return w.block(s.Body)
	}
	k := len(w.code.Sections)
	w.code.Sections = append(w.code.Sections, api.Section{Thread: len(w.code.Threads), From: w.here()})
	w.put(api.Instr{Op: api.Begin, N: k})
	w.inside = true
	steps := w.block(s.Body)
	w.inside = false
	w.code.Sections[k].To = w.here()
	w.put(api.Instr{Op: api.Leave, N: k})
	return 2 + steps
}

// call puts a function in its place.
func (w *writer) call(s api.Stmt) int {
	w.calls++
	f := funOf(w.program.Funs, s.Name)
	var inner frame
	for i := range min(len(f.Params), len(s.Args)) {
		inner.locals = append(inner.locals, w.argument(f.Params[i], s.Args[i]))
	}
	around := w.frame
	w.frame = inner
	steps := w.block(f.Body)
	w.frame = around
	return len(s.Args) + steps
}

// argument writes an argument, and answers the parameter that has it. The caller doesn't see it: other arguments may name one of its own that is called the same.
func (w *writer) argument(param api.Named, e api.Expr) local {
	items, _ := w.items(e)
	to := w.slot(param.Type, true)
	w.put(api.Instr{Op: api.DoCalc, Dst: to, Items: items})
	return local{param.Name, to, param.Type}
}
