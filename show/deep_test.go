package show_test

import (
	"math"
	"math/rand"
	"reflect"
	"slices"
	"strings"
	"testing"

	"padlock/api"
	"padlock/num"
	"padlock/parse"
	"padlock/show"
	"padlock/tree"
)

// layers: what makes an expression so much deeper, and stays in its plain text; and what stands in the innermost one.
var layers = []struct {
	ahead, within, behind string
	deep                  int
}{
	{"-", "x", "", 1}, {"real ", "x", "", 1}, {"trunc ", "x", "", 1}, {"1 - (", "1 - x", ")", 1}, {"2 < (", "1 == x", ")", 1}, {"2 / (", "x * 1", ")", 1},
	{"(", "x", " + 1) * 3", 1}, {"(", "x", " < 2) - 1", 1}, {"-(", "x", " % 2)", 2}, {"real trunc (", "x", " <= 2)", 3},
}

// blocks: what makes statements one deeper.
var blocks = [][]string{{"atomic {"}, {"if x {"}, {"if x {", "} else {"}, {"loop 3 {"}, {"out: loop 3 {"}}

// P6.2: as deep as may be: blocks, and in them expressions; and one deeper, which Parse refuses.
func TestAsDeepAsMayBe(t *testing.T) {
	for i, l := range layers {
		for inBlocks := range api.MaxDepth {
			n := (api.MaxDepth - 1 - inBlocks) / l.deep
			expr := strings.Repeat(l.ahead, n) + l.within + strings.Repeat(l.behind, n)
			lines := []string{"print " + expr + ";"}
			for k := range inBlocks {
				lines = append(append(slices.Clone(blocks[(i+k)%len(blocks)]), deeper(lines)...), "}")
			}
			text := inThread(lines...)
			again(t, parsed(t, text), text)
			text = strings.Replace(text, "print "+expr+";", "print "+l.ahead+expr+l.behind+";", 1)
			if _, fault := parse.Parse(text); fault.Err != api.ErrSize {
				t.Errorf("%q: %v", text, fault)
			}
		}
	}
}

// P6.2: a program whose text is just as long as a text may be, and one longer.
func TestAsLongAsMayBe(t *testing.T) {
	around := inThread("let  = 1;")
	for size, wanted := range map[int]api.Errno{api.MaxText: api.OK, api.MaxText + 1: api.ErrSize} {
		long := strings.Repeat("x", size-len(around))
		p := thread(api.Stmt{Op: api.Let, Name: long, Right: calc(lit(1))})
		plain := show.Program(p)
		want(t, plain, inThread("let "+long+" = 1;"))
		if q, fault := parse.Parse(plain); fault.Err != wanted || wanted == api.OK && !tree.Same(p, q) {
			t.Errorf("%d: %v", len(plain), fault)
		}
	}
	// A text that may be, whose plain one is too long to be one: it is told nonetheless.
	short := "thread{" + strings.Repeat("x=1;", api.MaxText/4-3) + "}"
	want(t, show.Program(parsed(t, short)), "thread {\n"+strings.Repeat("\tx = 1;\n", api.MaxText/4-3)+"}\n")
}

// nested: an expression so deep, each level made of the one within.
func nested(deep int, within api.Expr, level func(api.Expr) api.Expr) api.Expr {
	for range deep {
		within = level(within)
	}
	return within
}

// P6.1, the bound: as many parts within one another as the document names.
func TestDeepest(t *testing.T) {
	const deep = 1<<16 - 1
	x := name("x")
	for _, c := range []struct {
		parts                int
		level                func(api.Expr) api.Expr
		ahead, first, behind string
	}{
		{1, func(e api.Expr) api.Expr { return of(api.Neg, e) }, "-", "-x", ""},
		{1, func(e api.Expr) api.Expr { return of(api.Trunc, e) }, "trunc ", "trunc x", ""},
		{1, func(e api.Expr) api.Expr { return bin(num.Sub, e, x) }, "", "x - x", " - x"},
		{1, func(e api.Expr) api.Expr { return bin(num.Sub, x, e) }, "x - (", "x - x", ")"},
		{2, func(e api.Expr) api.Expr { return bin(num.Mul, x, bin(num.Add, x, e)) }, "x * (x + ", "x * (x + x)", ")"},
		{2, func(e api.Expr) api.Expr { return bin(num.Lt, bin(num.Add, e, x), x) }, "(", "x + x < x", ") + x < x"},
	} {
		n := deep / c.parts
		want(t, show.Expr(nested(n, x, c.level)), strings.Repeat(c.ahead, n-1)+c.first+strings.Repeat(c.behind, n-1))
	}
	s := show1(x)
	for range 2000 {
		s = api.Stmt{Op: api.Atomic, Body: []api.Stmt{s}}
	}
	got := show.Program(thread(s))
	want(t, got[:31], "thread {\n\tatomic {\n\t\tatomic {\n\t")
	if lines := strings.Split(got, "\n"); lines[2001] != strings.Repeat("\t", 2001)+"print x;" || lines[2002] != strings.Repeat("\t", 2000)+"}" || len(lines) != 4004 {
		t.Error(len(lines))
	}
}

// P6.1: of what is made otherwise than layer 4 says the call ends.
func TestMadeOtherwise(t *testing.T) {
	kinds := []int{-1, 0, 5, 10, 12, 99, math.MinInt, math.MaxInt}
	for _, k := range kinds {
		show.Type(api.Type{Kind: k, Rec: "R"})
		for _, kids := range [][]api.Expr{nil, {}, {lit(1)}, {lit(1), lit(2)}, {lit(1), lit(2), lit(3)}, {{Op: api.Binary, Bin: k}, {Op: api.Binary, Bin: k}}} {
			for _, op := range append(kinds, api.Neg, api.ToReal, api.Trunc, api.Binary) {
				show.Expr(api.Expr{Op: op, Bin: k, Kids: kids, Type: api.Type{Kind: k}})
			}
		}
		s := api.Stmt{Op: k, Right: api.Right{Op: k}, Place: api.Place{Op: k}, Body: []api.Stmt{{}}, Else: []api.Stmt{{}}, Args: []api.Expr{{}}}
		show.Program(thread(s, api.Stmt{Op: api.Let, Right: api.Right{Op: k}}, api.Stmt{Op: api.Set, Place: api.Place{Op: k}}))
	}
	r := rand.New(rand.NewSource(4))
	for range 2000 {
		var p api.Program
		scrawl(r, reflect.ValueOf(&p).Elem(), 3)
		show.Program(p)
		var e api.Expr
		scrawl(r, reflect.ValueOf(&e).Elem(), 4)
		show.Expr(e)
	}
}

// scrawl: any value, by chance.
func scrawl(r *rand.Rand, v reflect.Value, deep int) {
	switch v.Kind() {
	case reflect.Int:
		v.SetInt(int64(r.Intn(15) - 2))
	case reflect.Uint64:
		v.SetUint(r.Uint64())
	case reflect.String:
		v.SetString([]string{"", "x", "\n"}[r.Intn(3)])
	case reflect.Struct:
		for i := range v.NumField() {
			scrawl(r, v.Field(i), deep)
		}
	case reflect.Slice:
		if n := r.Intn(4); deep > 0 {
			v.Set(reflect.MakeSlice(v.Type(), n, n))
			for i := range n {
				scrawl(r, v.Index(i), deep-1)
			}
		}
	}
}

// Rules 3 and 4: what is handed in stays as it is, and the answer hangs on it alone.
func TestArgumentsStay(t *testing.T) {
	p, was := parsed(t, full), parsed(t, full)
	first := show.Program(p)
	show.Program(thread(show1(lit(9))))
	if want(t, show.Program(p), first); !reflect.DeepEqual(p, was) {
		t.Error("the program was changed")
	}
	row := make([]api.Expr, 3)
	row[0], row[1], row[2] = lit(1), lit(2), lit(3)
	e := api.Expr{Op: api.Binary, Kids: row[:2]}
	want(t, show.Expr(e), "1 + 2")
	if !reflect.DeepEqual(row, []api.Expr{lit(1), lit(2), lit(3)}) {
		t.Error("the kids were changed")
	}
}
