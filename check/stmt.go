package check

import (
	"slices"

	"padlock/api"
)

// block asks of the statements of a block, behind whose end its locals aren't seen any more.
func (c *checker) block(list []api.Stmt) {
	before := len(c.locals)
	for _, s := range list {
		c.stmt(s)
	}
	c.locals = c.locals[:before]
}

func (c *checker) stmt(s api.Stmt) {
	at := spot{s.Line, s.Col}
	switch s.Op {
	case api.Let, api.VarStmt:
		c.given(s, at)
	case api.Assign:
		c.assign(s, at)
	case api.Set:
		c.fits(s.E, c.place(s.Place))
	case api.Print:
		need(isNumber(c.expr(s.E)), api.ErrType, spot{s.E.Line, s.E.Col})
	case api.If:
		c.fits(s.E, whole)
		c.block(s.Body)
		c.block(s.Else)
	case api.Loop:
		c.loop(s, at)
	case api.Break, api.Continue:
		need(len(c.labels) > 0 && (s.Name == "" || slices.Contains(c.labels, s.Name)), api.ErrLabel, at)
	case api.Atomic:
		c.atomic(s)
	case api.Call:
		c.call(s, at)
	}
	need(!c.outside || !isShared(s, c.reach), api.ErrShared, at)
}

// given asks of a Let or a VarStmt. Its name is seen only behind it.
func (c *checker) given(s api.Stmt, at spot) {
	_, there := c.local(s.Name)
	need(!there, api.ErrName, at)
	kind := c.right(s.Right)
	c.locals = append(c.locals, local{s.Name, kind, s.Op == api.Let})
}

func (c *checker) assign(s api.Stmt, at spot) {
	l := c.seen(s.Name, at)
	need(!l.ever, api.ErrType, at)
	need(c.right(s.Right) == l.kind, api.ErrType, spot{s.Right.Line, s.Right.Col})
}

func (c *checker) loop(s api.Stmt, at spot) {
	need(s.N <= api.MaxLoop, api.ErrSize, at)
	need(s.Name == "" || !slices.Contains(c.labels, s.Name), api.ErrName, at)
	c.labels = append(c.labels, s.Name)
	c.block(s.Body)
	c.labels = c.labels[:len(c.labels)-1]
}

// atomic asks of a section. The loops around it are hidden from it, so that nothing leaves it ahead of its end.
func (c *checker) atomic(s api.Stmt) {
	around, outside := c.labels, c.outside
	c.labels, c.outside = nil, false
	c.block(s.Body)
	c.labels, c.outside = around, outside
}

func (c *checker) call(s api.Stmt, at spot) {
	f, ok := funOf(c.program.Funs, s.Name)
	need(ok, api.ErrName, at)
	need(len(s.Args) == len(f.Params), api.ErrType, at)
	for i, e := range s.Args {
		c.fits(e, f.Params[i].Type)
	}
}
