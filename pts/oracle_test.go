package pts_test

import (
	"padlock/api"
)

// node: where a set stands: that of a slot of a thread, of a global (thread -1), or of a field of a site (thread -2 less the site).
type node struct{ thread, n int }

func globalAt(n int) node { return node{-1, n} }

func fieldAt(site, n int) node { return node{-2 - site, n} }

// graph tells the sets once more, otherwise: as what a site comes to along edges; an edge that hangs on a Src comes with the site that it needs there.
type graph struct {
	api.Code
	edges map[node]map[node]bool
	has   map[node]map[int]bool
}

// told: the sets of a code that can be.
func told(c api.Code) api.Sets {
	g := graph{c, map[node]map[node]bool{}, map[node]map[int]bool{}}
	for thread, b := range c.Threads {
		for _, x := range b.Code {
			g.known(thread, x)
		}
	}
	for more := true; more; {
		more = false
		for thread, b := range c.Threads {
			for _, x := range b.Code {
				for site := range g.has[node{thread, x.Src}] {
					more = g.through(thread, x, site) || more
				}
			}
		}
	}
	return g.sets()
}

// known: the edges, and the sites, that hang on nothing.
func (g graph) known(thread int, x api.Instr) {
	dst := node{thread, x.Dst}
	switch x.Op {
	case api.DoCalc:
		g.items(thread, x.Items, dst)
	case api.LoadG:
		g.edge(globalAt(x.N), dst)
	case api.StoreG:
		g.items(thread, x.Items, globalAt(x.N))
	case api.MakeRec, api.MakeInts:
		g.flood(dst, x.N)
	}
}

// through: the edges of a load, or a store, by way of a site in its Src; whether there is a new one.
func (g graph) through(thread int, x api.Instr, site int) bool {
	rec := g.Sites[site].Rec
	switch {
	case x.Op == api.LoadF && rec >= 0 && x.N < len(g.Records[rec]):
		return g.edge(fieldAt(site, x.N), node{thread, x.Dst})
	case x.Op == api.StoreF && rec == x.Rec:
		return g.items(thread, x.Items, fieldAt(site, x.N))
	}
	return false
}

func (g graph) items(thread int, items []api.Item, to node) bool {
	more := false
	for _, item := range items {
		if item.Op == api.Slot {
			more = g.edge(node{thread, int(item.N)}, to) || more
		}
	}
	return more
}

func (g graph) edge(from, to node) bool {
	if g.edges[from] == nil {
		g.edges[from] = map[node]bool{}
	}
	if g.edges[from][to] {
		return false
	}
	g.edges[from][to] = true
	for site := range g.has[from] {
		g.flood(to, site)
	}
	return true
}

// flood brings a site to a set, and to all to which edges lead from there.
func (g graph) flood(at node, site int) {
	if kind := g.kindOf(at); g.has[at][site] || kind != api.Ref && kind != api.Ints {
		return
	}
	if g.has[at] == nil {
		g.has[at] = map[int]bool{}
	}
	g.has[at][site] = true
	for to := range g.edges[at] {
		g.flood(to, site)
	}
}

func (g graph) kindOf(at node) int {
	switch {
	case at.thread >= 0:
		return g.Threads[at.thread].Slots[at.n].Kind
	case at.thread == -1:
		return g.Globals[at.n].Kind
	}
	return g.Records[g.Sites[-2-at.thread].Rec][at.n].Kind
}

func (g graph) sets() api.Sets {
	row := func(thread, length int) []uint64 {
		list := make([]uint64, length)
		for n := range list {
			for site := range g.has[node{thread, n}] {
				list[n] |= 1 << site
			}
		}
		return list
	}
	s := api.Sets{Globals: row(-1, len(g.Globals))}
	for thread, b := range g.Threads {
		s.Slots = append(s.Slots, row(thread, len(b.Slots)))
	}
	for n, site := range g.Sites {
		length := 0
		if site.Rec >= 0 {
			length = len(g.Records[site.Rec])
		}
		s.Fields = append(s.Fields, row(-2-n, length))
	}
	return s
}
