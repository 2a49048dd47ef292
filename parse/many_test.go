package parse_test

import (
	"math/rand"
	"reflect"
	"slices"
	"strings"
	"testing"

	"padlock/api"
	"padlock/lex"
	"padlock/parse"
)

// checkFault: that Parse answers the fault that the rules ask for, and with one no program.
func checkFault(t *testing.T, text string) api.Fault {
	t.Helper()
	p, fault := parse.Parse(text)
	if wanted := faultOf(text); fault != wanted {
		t.Fatalf("%q: %v, not %v", text, fault, wanted)
	}
	if fault != (api.Fault{}) && !same(p, api.Program{}) {
		t.Fatalf("%q: %v, and a program: %+v", text, fault, p)
	}
	return fault
}

// P5.1, P5.2: programs made by chance, with texts that tell them: each part, and each place.
func TestMadePrograms(t *testing.T) {
	r := rand.New(rand.NewSource(5))
	made, deep := 0, 0
	for range 4000 {
		m := newMaker(r, api.MaxDepth)
		wanted := m.program()
		text := m.text.String()
		if len(text) > api.MaxText {
			continue
		}
		made++
		want(t, text, parsed(t, text), wanted)
		checkFault(t, text)
		if t.Failed() {
			return
		}
		// As deep as may be is what one block more around it would make too deep.
		if tokens, _ := lex.Lex(text); tooDeep(deeper(tokens)) < len(tokens)+2 {
			deep++
		}
	}
	if made < 3000 || deep < 100 {
		t.Errorf("only %d made, %d of them as deep as may be", made, deep)
	}
}

// deeper: the tokens within one block more.
func deeper(tokens []lex.Token) []lex.Token {
	thread, open := lex.Token{Kind: lex.Word, Text: "thread"}, lex.Token{Kind: lex.Sign, Text: "{"}
	return slices.Concat([]lex.Token{thread, open}, tokens)
}

// P5.1, P5.2: texts that go deeper than may be, made by chance.
func TestMadeTooDeep(t *testing.T) {
	r := rand.New(rand.NewSource(6))
	faults := map[api.Errno]int{}
	for range 8000 {
		m := newMaker(r, 16)
		m.program()
		faults[checkFault(t, m.text.String()).Err]++
	}
	if faults[api.ErrSize] < 100 || faults[api.OK] < 100 {
		t.Error(faults)
	}
}

// P5.1, P5.2: texts made by chance, in which tokens were left out, put in, put twice, made others, or changed with the next.
func TestChangedPrograms(t *testing.T) {
	r := rand.New(rand.NewSource(7))
	others := append(strings.Fields("== != <= { } ( ) [ ] ; : , . = < + - * / % x R 1 0 #7ff8000000000000"), words...)
	faults := map[api.Errno]int{}
	for range 1500 {
		m := newMaker(r, 8+r.Intn(8))
		m.program()
		tokens, fault := lex.Lex(m.text.String())
		if fault != (api.Fault{}) || len(tokens) < 2 {
			continue
		}
		var texts []string
		for _, k := range tokens {
			texts = append(texts, k.Text)
		}
		for range 6 {
			changed := change(r, texts, others)
			if r.Intn(3) == 0 {
				changed = change(r, changed, others)
			}
			faults[checkFault(t, strings.Join(changed, " ")).Err]++
		}
	}
	if faults[api.ErrSyntax] < 3000 || faults[api.ErrSize] < 50 || faults[api.OK] < 100 {
		t.Error(faults)
	}
}

// change: a row of tokens with one thing changed.
func change(r *rand.Rand, texts, others []string) []string {
	i := r.Intn(len(texts))
	out := slices.Clone(texts)
	other := others[r.Intn(len(others))]
	switch r.Intn(6) {
	case 0:
		return append(slices.Delete(out, i, i+1), "")
	case 1:
		return slices.Insert(out, i, other)
	case 2:
		return slices.Insert(out, i, out[i])
	case 3:
		out[i] = other
	case 4:
		j := (i + 1) % len(out)
		out[i], out[j] = out[j], out[i]
	case 5:
		return slices.Insert(out, i, slices.Repeat([]string{[]string{"(", "-", "real", "atomic {"}[r.Intn(4)]}, 1+r.Intn(12))...)
	}
	return out
}

// P5.1, P5.2: all short rows of the tokens that matter, where statements, expressions and items stand.
func TestAllShort(t *testing.T) {
	for _, spot := range []struct {
		ahead, behind, tokens string
		long                  int
	}{
		{"thread { print ", " ; }", "- ( ) + * < 1 x real nil ints input", 4},
		{"thread { ", " }", "x = : loop 1 { } ; break print if else", 4},
		{"thread { let x = ", " ; }", "load new size ints x . [ ] 1 - (", 4},
		{"thread { call f ", " ; }", "( ) , 1 x - ;", 5},
		{"", "", "record global fun thread x { } ( ) : int ; ,", 4},
		{"record R ", "", "{ } x : ; int real R ,", 5},
		{"fun f ", " {}", "( ) x : , int ints R {", 5},
	} {
		tokens := strings.Fields(spot.tokens)
		var grow func(text string, left int)
		grow = func(text string, left int) {
			checkFault(t, spot.ahead+text+spot.behind)
			if left == 0 {
				return
			}
			for _, k := range tokens {
				grow(text+" "+k, left-1)
			}
		}
		grow("", spot.long)
	}
}

// P5.2: whatever the text is, it ends, and never panics.
func TestAnyBytes(t *testing.T) {
	r := rand.New(rand.NewSource(8))
	for a := range 256 {
		for b := range 256 {
			checkFault(t, string([]byte{byte(a), byte(b)}))
		}
	}
	base := strings.Join(samples, "\n")
	for range 3000 {
		text := []byte(base[:r.Intn(len(base))])
		for range 1 + r.Intn(3) {
			if len(text) > 0 {
				text[r.Intn(len(text))] = byte(r.Intn(256))
			}
		}
		checkFault(t, string(text))
	}
}

// P5.2: the longest texts: sums, products, rows of all kinds; and such as are deep without end.
func TestLongest(t *testing.T) {
	fill := func(ahead, part, behind string) string {
		n := (api.MaxText - len(ahead) - len(behind)) / len(part)
		return ahead + strings.Repeat(part, n) + behind
	}
	for _, text := range []string{
		fill("thread{print 1", "+1", ";}"), fill("thread{print 1", "*x", ";}"), fill("thread{print 1", "-1*1", ";}"), fill("thread{print 1", "--1", ";}"),
		fill("thread{", "x=1;", "}"), fill("thread{", "break;", "}"), fill("thread{", "atomic{}", "}"), fill("thread{call f(1", ",1", ");}"),
		fill("", "thread{}", ""), fill("", "global g:int;", ""), fill("", "record R{}", ""), fill("", "fun f(){}", ""), fill("fun f(a:R", ",a:R", "){}"), fill("record R{", "a:R;", "}"),
	} {
		parsed(t, text)
	}
	for _, part := range []string{"(", "-", "real ", "trunc-"} {
		if _, fault := parse.Parse(fill("thread{print ", part, "")); fault.Err != api.ErrSize || fault.Line != 1 || fault.Col > 13+12*len(part) {
			t.Errorf("%s: %v", part, fault)
		}
	}
	for _, part := range []string{"atomic{", "if x{", "loop 1{", "if x{}else{"} {
		if _, fault := parse.Parse(fill("thread{", part, "")); fault.Err != api.ErrSize {
			t.Errorf("%s: %v", part, fault)
		}
	}
	faultAt(t, strings.Repeat("}", api.MaxText), api.ErrSyntax, 1, 1)
	// A sum of many is as deep a tree as it is long, with the first two at its end.
	e := parsed(t, fill("thread{print 7", "+1", ";}")).Threads[0].Body[0].E
	n := 0
	for ; e.Op == api.Binary; e = e.Kids[0] {
		n++
	}
	if e.Op != api.Lit || e.N != 7 || n != (api.MaxText-16)/2 {
		t.Errorf("%d, %+v", n, e)
	}
}

// Rule 4: what Parse answers hangs on the text alone: not on what was parsed ahead of it, given up or not.
func TestAgain(t *testing.T) {
	var first []api.Program
	for _, s := range samples {
		first = append(first, parsed(t, s))
	}
	for i, s := range samples {
		faultAt(t, "thread { print ((((((((((((1", api.ErrSize, 1, 27)
		faultAt(t, "thread {", api.ErrSyntax, 1, 9)
		want(t, s, parsed(t, s), first[i])
	}
}

// Rule 3: the lists of an answer share no memory, spare room included, with one another or with another answer's.
func TestNewMemory(t *testing.T) {
	text := strings.Join(samples, "\n")
	var rooms [][2]uintptr
	for range 2 {
		rooms = append(rooms, roomsOf(reflect.ValueOf(parsed(t, text)))...)
	}
	if len(rooms) < 100 {
		t.Fatal(len(rooms))
	}
	slices.SortFunc(rooms, func(a, b [2]uintptr) int { return int(a[0]) - int(b[0]) })
	for i := 1; i < len(rooms); i++ {
		if rooms[i][0] < rooms[i-1][1] {
			t.Fatal("two lists share memory")
		}
	}
}

// kept holds all that roomsOf looked at, so that no room is used anew while others are looked at.
var kept []reflect.Value

// roomsOf: from where to where all lists of a value have room.
func roomsOf(v reflect.Value) [][2]uintptr {
	kept = append(kept, v)
	var out [][2]uintptr
	switch v.Kind() {
	case reflect.Struct:
		for i := range v.NumField() {
			out = append(out, roomsOf(v.Field(i))...)
		}
	case reflect.Slice:
		if v.Cap() > 0 {
			out = append(out, [2]uintptr{v.Pointer(), v.Pointer() + uintptr(v.Cap())*v.Type().Elem().Size()})
		}
		for i := range v.Len() {
			out = append(out, roomsOf(v.Index(i))...)
		}
	}
	return out
}
