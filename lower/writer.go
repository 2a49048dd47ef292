package lower

import "padlock/api"

// tooMany stands for all numbers of steps that are more than may be: loops within loops would have more than 64 bits tell.
const tooMany = api.MaxSteps + 1

// writer writes the code of one thread.
type writer struct {
	program api.Program
	code    *api.Code // of the threads ahead of it, and the sites and sections of its own so far
	body    api.Body
	frame
	calls  int  // put in their places
	inside bool // a section
	long   bool // there was an expression of more items than may be
}

// frame has what is seen at a statement: in a function nothing of the caller's.
type frame struct {
	locals []local
	loops  []*loop // those around it, the innermost one last
}

// local is a name, with its slot.
type local struct {
	name string
	slot int
	kind api.Type
}

// loop is where a loop begins, and what is to be called where it ends.
type loop struct {
	label string
	begin int
	ends  []func()
}

// thread answers the code of a thread; not ok: it is too great.
func (w *writer) thread(t api.Thread) (api.Body, bool) {
	w.body.Most = w.block(t.Body)
	w.put(api.Instr{Op: api.Halt})
	if w.tooGreat() || w.body.Most > api.MaxSteps {
		return api.Body{}, false
	}
	return w.body, true
}

// tooGreat answers whether there is more of something than may be. Since there never will be less of it, and Calls within Calls could be more than can be gone over, nothing is written any more then. It doesn't ask of steps: what is too many of them in a loop of no turns is none.
func (w *writer) tooGreat() bool {
	return len(w.body.Code) > api.MaxCode || len(w.body.Slots) > api.MaxSlots || w.long || w.calls > api.MaxCode ||
		len(w.code.Sites) > api.MaxSites || len(w.code.Sections) > api.MaxSections
}

// put writes an instruction.
func (w *writer) put(x api.Instr) {
	w.body.Code = append(w.body.Code, x)
}

// here answers where the next instruction stands.
func (w *writer) here() int {
	return len(w.body.Code)
}

// putAhead writes an instruction that goes on further ahead, and answers what is to be called as soon as that place is the next one.
func (w *writer) putAhead(x api.Instr) func() {
	at := w.here()
	w.put(x)
	return func() { w.body.Code[at].To = w.here() }
}

// slot answers a new one.
func (w *writer) slot(t api.Type, once bool) int {
	l := localOf(w.program, t)
	l.Once = once
	w.body.Slots = append(w.body.Slots, l)
	return len(w.body.Slots) - 1
}

// site answers a new one, of what the next instruction makes.
func (w *writer) site(rec int) int {
	w.code.Sites = append(w.code.Sites, api.Site{Thread: len(w.code.Threads), At: w.here(), Rec: rec})
	return len(w.code.Sites) - 1
}

// seen answers the local of a name.
func (w *writer) seen(name string) local {
	_, l := find(w.locals, func(l local) bool { return l.name == name })
	return l
}
