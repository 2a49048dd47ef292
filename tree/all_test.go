package tree_test

import (
	"reflect"
	"slices"
	"testing"

	"padlock/api"
	"padlock/tree"
)

// met: a statement, and how deep it stands.
type met struct {
	deep int
	stmt api.Stmt
}

// walked: what All must go over, by a pile of what is still to come.
func walked(list []api.Stmt) []met {
	var out, pile []met
	push := func(row []api.Stmt, deep int) {
		for _, s := range slices.Backward(row) {
			pile = append(pile, met{deep, s})
		}
	}
	push(list, 0)
	for len(pile) > 0 {
		top := pile[len(pile)-1]
		pile = pile[:len(pile)-1]
		out = append(out, top)
		push(top.stmt.Else, top.deep+1)
		push(top.stmt.Body, top.deep+1)
	}
	return out
}

func metBy(list []api.Stmt) []met {
	var out []met
	for deep, s := range tree.All(list) {
		out = append(out, met{deep, s})
	}
	return out
}

// sameMet: whether two rows are the same to the last place; nil and empty rows are one.
func sameMet(a, b []met) bool {
	return slices.EqualFunc(a, b, func(a, b met) bool {
		return a.deep == b.deep && a.stmt.Line == b.stmt.Line && a.stmt.Col == b.stmt.Col && reflect.DeepEqual(filled(a.stmt), filled(b.stmt))
	})
}

// filled: the statement with nil for each row of none, and its places kept.
func filled(s api.Stmt) api.Stmt {
	out := copyOf(s)
	for _, p := range partsOf(&out) {
		if p.value.Kind() == reflect.Slice && p.value.Len() == 0 {
			p.value.SetZero()
		}
	}
	return out
}

func call(name string) api.Stmt { return api.Stmt{Op: api.Call, Name: name} }

func within(op int, body ...api.Stmt) api.Stmt { return api.Stmt{Op: op, Body: body} }

// nested: rows within rows, of which the names of all, and how deep they stand, are told.
func nested() ([]api.Stmt, []string, []int) {
	inner := api.Stmt{Op: api.If, Name: "d", Body: []api.Stmt{call("e"), {Op: api.Loop, Name: "f", Body: []api.Stmt{call("g")}}}, Else: []api.Stmt{call("h"), within(api.Atomic, call("i"))}}
	inner.Else[1].Name = "j"
	first := api.Stmt{Op: api.If, Name: "a", Body: []api.Stmt{call("b"), call("c")}, Else: []api.Stmt{inner, call("k")}}
	list := []api.Stmt{call("0"), first, {Op: api.Print, Name: "l"}, {Op: api.If, Name: "m", Else: []api.Stmt{call("n")}}, call("o")}
	return list, []string{"0", "a", "b", "c", "d", "e", "f", "g", "h", "j", "i", "k", "l", "m", "n", "o"}, []int{0, 0, 1, 1, 1, 2, 2, 3, 2, 2, 3, 1, 0, 0, 1, 0}
}

// P4.1: the chapter's example.
func TestExample(t *testing.T) {
	got := metBy([]api.Stmt{{Op: api.If, E: one, Body: []api.Stmt{{Op: api.Print, E: two}}}})
	want := []met{{0, api.Stmt{Op: api.If, E: one, Body: []api.Stmt{{Op: api.Print, E: two}}}}, {1, api.Stmt{Op: api.Print, E: two}}}
	if !sameMet(got, want) {
		t.Errorf("%+v", got)
	}
}

// P4.1: each statement ahead of those of its Body, and these ahead of those of its Else.
func TestAllOrder(t *testing.T) {
	list, names, deep := nested()
	got := metBy(list)
	if len(got) != len(names) {
		t.Fatal(len(got))
	}
	for i, m := range got {
		if m.stmt.Name != names[i] || m.deep != deep[i] {
			t.Errorf("%d: %s at %d, not %s at %d", i, m.stmt.Name, m.deep, names[i], deep[i])
		}
	}
}

// P4.1: over a row of none nothing is gone over.
func TestAllOfNone(t *testing.T) {
	for _, list := range [][]api.Stmt{nil, {}, make([]api.Stmt, 3)[:0]} {
		for deep, s := range tree.All(list) {
			t.Error(deep, s)
		}
	}
}

// P4.1: the rows of all kinds are gone over, those of kinds that have or know none, too; the statements are whole.
func TestAllOfAllKinds(t *testing.T) {
	for _, k := range kinds {
		s := full[api.Stmt](3)
		s.Op = k
		list := []api.Stmt{s, {Op: k}, {Op: k, Body: []api.Stmt{{Op: k}}}, {Op: k, Else: []api.Stmt{{Op: k}}}}
		if got := metBy(list); !sameMet(got, walked(list)) || len(got) <= 6 {
			t.Errorf("%d: %d", k, len(got))
		}
	}
}

// P4.1: of many rows made by chance; Calls and Count, too.
func TestManyRows(t *testing.T) {
	m := newMaker(5)
	for range 400 {
		list := m.stmts(m.Intn(4))
		want := walked(list)
		if got := metBy(list); !sameMet(got, want) {
			t.Fatalf("%+v: %+v", list, got)
		}
		var names []string
		deepest := -1
		for _, w := range want {
			if w.stmt.Op == api.Call {
				names = append(names, w.stmt.Name)
			}
			deepest = max(deepest, w.deep)
		}
		if got := tree.Calls(list); !slices.Equal(got, names) {
			t.Fatalf("%+v: %q", list, got)
		}
		half := m.Intn(len(list) + 1)
		p := api.Program{Funs: []api.Fun{{Body: list[:half]}}, Threads: []api.Thread{{Body: list[half:]}}}
		if n, d := tree.Count(p); n != len(want) || d != deepest {
			t.Fatalf("%+v: %d, %d", list, n, d)
		}
	}
}

// P4.1, rule 9: it may be left behind each statement, and gone over anew.
func TestAllLeft(t *testing.T) {
	list, names, _ := nested()
	all := tree.All(list)
	for size := range len(names) {
		var got []string
		for _, s := range all {
			got = append(got, s.Name)
			if len(got) == size+1 {
				break
			}
		}
		if !slices.Equal(got, names[:size+1]) {
			t.Errorf("left behind %d: %q", size+1, got)
		}
	}
	for size := range len(names) {
		n := 0
		all(func(int, api.Stmt) bool {
			n++
			return n <= size
		})
		if n != size+1 {
			t.Errorf("asked %d times, not %d", n, size+1)
		}
	}
	for range 2 {
		n := 0
		for _, s := range all {
			for _, inner := range tree.All(s.Body) {
				n += len(inner.Name)
			}
			n++
		}
		if n != len(names)+7 {
			t.Error(n)
		}
	}
}

// Rule 3: what the caller writes into the list behind the call isn't seen.
func TestAllKeepsNothing(t *testing.T) {
	list := full[[]api.Stmt](3)
	want := walked(copyOf(list))
	all := tree.All(list)
	scribble(list)
	var got []met
	for deep, s := range all {
		got = append(got, met{deep, s})
	}
	if !sameMet(got, want) {
		t.Error("what was written behind the call is seen")
	}
}

// scribble: every number and text in the rows of v, and of these rows' own, becomes another one.
func scribble[T any](list []T) {
	for _, p := range partsOf(&list) {
		changes[0].do(p.value)
	}
}

// Rule 3: the rows of each statement that is gone over are its own.
func TestAllSharesNothing(t *testing.T) {
	list := full[[]api.Stmt](3)
	was := copyOf(list)
	want := walked(was)
	all := tree.All(list)
	for range 2 {
		at := 0
		for deep, s := range all {
			if !sameMet([]met{{deep, s}}, want[at:at+1]) {
				t.Fatalf("%d: another one", at)
			}
			for _, l := range [][]api.Expr{s.Args, s.E.Kids, s.Place.Index.Kids, s.Right.E.Kids, s.Right.Place.Index.Kids} {
				scribble(l)
			}
			scribble(s.Body)
			scribble(s.Else)
			at++
		}
		if at != len(want) {
			t.Error(at)
		}
	}
	if !reflect.DeepEqual(list, was) {
		t.Error("the list was changed by what was handed out")
	}
}

// P4.1: how many statements, and how deep the deepest one stands, be it in a function or in a thread.
func TestCount(t *testing.T) {
	list, names, _ := nested()
	fun := func(body ...api.Stmt) api.Fun { return api.Fun{Name: "f", Body: body} }
	thread := func(body ...api.Stmt) api.Thread { return api.Thread{Body: body} }
	size := len(names)
	for i, c := range []struct {
		p       api.Program
		n, deep int
	}{
		{api.Program{}, 0, -1},
		{api.Program{Records: []api.Record{{Name: "R"}}, Globals: []api.Named{{Name: "g"}}}, 0, -1},
		{api.Program{Funs: []api.Fun{fun(), fun()}, Threads: []api.Thread{thread(), thread()}}, 0, -1},
		{api.Program{Funs: []api.Fun{fun(call("f"))}}, 1, 0},
		{api.Program{Threads: []api.Thread{thread(call("f"))}}, 1, 0},
		{api.Program{Threads: []api.Thread{thread(), thread(call("f"), call("f")), thread()}}, 2, 0},
		{api.Program{Funs: []api.Fun{fun(list...)}}, size, 3},
		{api.Program{Threads: []api.Thread{thread(list...)}}, size, 3},
		{api.Program{Funs: []api.Fun{fun(call("f")), fun(list...), fun(call("f"))}, Threads: []api.Thread{thread(call("f"))}}, size + 3, 3},
		{api.Program{Funs: []api.Fun{fun(call("f"))}, Threads: []api.Thread{thread(call("f")), thread(list...), thread(call("f"))}}, size + 3, 3},
		{api.Program{Funs: []api.Fun{fun(within(api.Atomic))}, Threads: []api.Thread{thread(within(api.Loop, call("f")))}}, 3, 1},
		{api.Program{Funs: []api.Fun{fun(within(api.Loop, within(api.Atomic, call("f"))))}, Threads: []api.Thread{thread(within(api.Loop, call("f")))}}, 5, 2},
		{api.Program{Threads: []api.Thread{thread(within(99, within(-1, api.Stmt{}), api.Stmt{}), api.Stmt{Else: []api.Stmt{{}}})}}, 6, 2},
		{api.Program{Threads: []api.Thread{thread(chain(13, call("f"))...)}}, 13, 12},
	} {
		if n, deep := tree.Count(c.p); n != c.n || deep != c.deep {
			t.Errorf("%d: %d, %d; not %d, %d", i, n, deep, c.n, c.deep)
		}
	}
}

// P4.1: the names of all Calls, as often as they stand there, and of nothing else.
func TestCalls(t *testing.T) {
	list, _, _ := nested()
	for i, c := range []struct {
		list []api.Stmt
		want []string
	}{
		{nil, nil},
		{[]api.Stmt{}, nil},
		{stmtKinds()[:3], nil},
		{[]api.Stmt{{Op: api.Loop, Name: "f"}, {Op: api.Break, Name: "f"}, {Op: api.Let, Name: "f"}, {Op: 12, Name: "f"}, {Name: "f"}, {Op: -11, Name: "f"}}, nil},
		{[]api.Stmt{call("f")}, []string{"f"}},
		{[]api.Stmt{call("")}, []string{""}},
		{[]api.Stmt{call("f"), call("g"), call("f"), call("f")}, []string{"f", "g", "f", "f"}},
		{[]api.Stmt{call("z"), within(api.If, call("f"), call("a")), call("f")}, []string{"z", "f", "a", "f"}},
		{[]api.Stmt{{Op: api.If, Body: []api.Stmt{call("b")}, Else: []api.Stmt{call("a"), call("b")}}}, []string{"b", "a", "b"}},
		{[]api.Stmt{{Op: api.Call, Name: "f", Body: []api.Stmt{call("g")}, Else: []api.Stmt{call("h")}}}, []string{"f", "g", "h"}},
		{list, []string{"0", "b", "c", "e", "g", "h", "i", "k", "n", "o"}},
	} {
		if got := tree.Calls(c.list); !slices.Equal(got, c.want) {
			t.Errorf("%d: %q, not %q", i, got, c.want)
		}
	}
	first := tree.Calls(list)
	tree.Calls(list)[0] = "other"
	if first[0] != "0" || list[0].Name != "0" || tree.Calls(list)[0] != "0" {
		t.Error("an answer shares memory")
	}
}

// The bound: as many parts within one another as the document names.
func TestDeepest(t *testing.T) {
	const deep = 1 << 16
	a, b, other := chain(deep, call("f")), chain(deep, call("f")), chain(deep, call("g"))
	if !tree.Stmts(a, b) || !tree.SameStmt(a[0], b[0]) || tree.Stmts(a, other) || tree.SameStmt(other[0], a[0]) {
		t.Error("not what is the same")
	}
	p := api.Program{Threads: []api.Thread{{Body: a}}}
	if n, d := tree.Count(p); n != deep || d != deep-1 {
		t.Error(n, d)
	}
	if calls := tree.Calls(a); !slices.Equal(calls, []string{"f"}) {
		t.Error(calls)
	}
	n := 0
	for d, s := range tree.All(a) {
		if d != n || (s.Op == api.Call) != (n == deep-1) {
			t.Fatal(d, s.Op)
		}
		n++
	}
	if n != deep {
		t.Error(n)
	}
}

// The bound: expressions so deep.
func TestDeepestExprs(t *testing.T) {
	kids := func(least uint64) []api.Expr {
		list := []api.Expr{{Op: api.Lit, N: least}}
		for range 1<<16 - 1 {
			list = []api.Expr{{Op: api.Neg, Kids: list}}
		}
		return list
	}
	if !tree.Exprs(kids(1), kids(1)) || tree.Exprs(kids(1), kids(2)) {
		t.Error("deep")
	}
}
