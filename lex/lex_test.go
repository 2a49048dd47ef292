package lex_test

import (
	"fmt"
	"math/big"
	"math/rand"
	"regexp"
	"slices"
	"strings"
	"testing"

	"padlock/api"
	"padlock/lex"
)

var words = strings.Fields("record global fun thread let var set print if else loop break continue atomic call load new size int real ints nil input trunc")

var signs = strings.Fields("== != <= { } ( ) [ ] ; : , . = < + - * / %")

var (
	gapForm  = regexp.MustCompile(`^(?:[ \t\r\n]|//[^\n]*)*`)
	rowForm  = regexp.MustCompile(`^#?[A-Za-z0-9_]+|^#`)
	signForm = regexp.MustCompile(`^(?:==|!=|<=|[{}()\[\];:,.=<+*/%-])`)
	nameForm = regexp.MustCompile(`^[A-Za-z_][A-Za-z0-9_]*$`)
	intForm  = regexp.MustCompile(`^(?:0|[1-9][0-9]*)$`)
	realForm = regexp.MustCompile(`^#[0-9a-f]{16}$`)
)

// oracleToken: the token that a text begins with, by its form alone, without its place.
func oracleToken(s string) (lex.Token, bool) {
	if s == "" {
		return lex.Token{}, true
	}
	row := rowForm.FindString(s)
	n := new(big.Int)
	switch {
	case row == "":
		sign := signForm.FindString(s)
		return lex.Token{Kind: lex.Sign, Text: sign}, sign != ""
	case slices.Contains(words, row):
		return lex.Token{Kind: lex.Word, Text: row}, true
	case nameForm.MatchString(row):
		return lex.Token{Kind: lex.Name, Text: row}, true
	case intForm.MatchString(row):
		n.SetString(row, 10)
		return lex.Token{Kind: lex.Int, Text: row, N: n.Uint64()}, n.IsInt64()
	case realForm.MatchString(row):
		n.SetString(row[1:], 16)
		return lex.Token{Kind: lex.Real, Text: row, N: n.Uint64()}, true
	}
	return lex.Token{}, false
}

// oraclePlace: the place of a byte, counted byte by byte.
func oraclePlace(s string, at int) (int, int) {
	line, col := 1, 1
	for _, b := range []byte(s[:at]) {
		col++
		if b == '\n' {
			line, col = line+1, 1
		}
	}
	return line, col
}

// oracle: what Lex must answer.
func oracle(s string) ([]lex.Token, api.Fault) {
	if len(s) > 8192 {
		return nil, api.Fault{Err: api.ErrSize, Line: 1, Col: 1}
	}
	var out []lex.Token
	at := 0
	for {
		at += len(gapForm.FindString(s[at:]))
		line, col := oraclePlace(s, at)
		t, ok := oracleToken(s[at:])
		if !ok {
			return nil, api.Fault{Err: api.ErrLex, Line: line, Col: col}
		}
		t.Line, t.Col = line, col
		out = append(out, t)
		if t.Kind == lex.End {
			return out, api.Fault{}
		}
		at += len(t.Text)
	}
}

// checkText: that Lex answers what it must of a text, and, if there are tokens, these again of them with blanks between.
func checkText(t *testing.T, s string) {
	t.Helper()
	got, fault := lex.Lex(s)
	want, wantFault := oracle(s)
	if fault != wantFault || !slices.Equal(got, want) {
		t.Fatalf("%.60q: %v, %v; not %v, %v", s, got, fault, want, wantFault)
	}
	if fault.Err == api.OK {
		checkAgain(t, got)
	}
}

// textsOf: the letters of tokens.
func textsOf(tokens []lex.Token) []string {
	var out []string
	for _, k := range tokens {
		out = append(out, k.Text)
	}
	return out
}

// bare: tokens without their places.
func bare(tokens []lex.Token) []lex.Token {
	out := slices.Clone(tokens)
	for i := range out {
		out[i].Line, out[i].Col = 0, 0
	}
	return out
}

func checkAgain(t *testing.T, tokens []lex.Token) {
	t.Helper()
	s := strings.Join(textsOf(tokens), " ")
	if len(s) > api.MaxText {
		return
	}
	again, fault := lex.Lex(s)
	if fault != (api.Fault{}) || !slices.Equal(bare(again), bare(tokens)) {
		t.Fatalf("%.60q: %v, %v; not again %v", s, again, fault, tokens)
	}
}

// one: the text's only token, ahead of its end.
func one(t *testing.T, s string) lex.Token {
	t.Helper()
	got, fault := lex.Lex(s)
	if fault != (api.Fault{}) || len(got) != 2 || got[1] != (lex.Token{Line: 1, Col: len(s) + 1}) {
		t.Fatalf("%q: %v, %v", s, got, fault)
	}
	return got[0]
}

// faultAt: that a text has no tokens, and that the first which is none stands there.
func faultAt(t *testing.T, s string, line, col int) {
	t.Helper()
	got, fault := lex.Lex(s)
	if fault != (api.Fault{Err: api.ErrLex, Line: line, Col: col}) || len(got) != 0 {
		t.Errorf("%.60q: %v, %v", s, got, fault)
	}
}

// P3.1: kinds count on from 0.
func TestKinds(t *testing.T) {
	for i, k := range []lex.Kind{lex.End, lex.Name, lex.Word, lex.Int, lex.Real, lex.Sign} {
		if int(k) != i {
			t.Errorf("%d: %d", i, k)
		}
	}
}

// P3.1: the chapter's examples.
func TestExamples(t *testing.T) {
	got, fault := lex.Lex("x1<=2")
	want := []lex.Token{
		{Kind: lex.Name, Text: "x1", Line: 1, Col: 1},
		{Kind: lex.Sign, Text: "<=", Line: 1, Col: 3},
		{Kind: lex.Int, Text: "2", N: 2, Line: 1, Col: 5},
		{Kind: lex.End, Line: 1, Col: 6},
	}
	if fault != (api.Fault{}) || !slices.Equal(got, want) {
		t.Errorf("%v, %v", got, fault)
	}
	faultAt(t, "007", 1, 1)
	faultAt(t, "1x", 1, 1)
}

// P3.1: each word is one, and no name; that goes on, or is cut, or has great letters, is a name.
func TestWords(t *testing.T) {
	if len(words) != 24 {
		t.Fatal(len(words))
	}
	for _, w := range words {
		if one(t, w) != (lex.Token{Kind: lex.Word, Text: w, Line: 1, Col: 1}) || !lex.IsWord(w) || lex.IsName(w) {
			t.Errorf("%s", w)
		}
		for _, s := range []string{w + "x", w + "_", w + "0", "_" + w, strings.ToUpper(w), strings.ToUpper(w[:1]) + w[1:]} {
			if one(t, s) != (lex.Token{Kind: lex.Name, Text: s, Line: 1, Col: 1}) || lex.IsWord(s) || !lex.IsName(s) {
				t.Errorf("%s", s)
			}
		}
		for _, s := range []string{w + " ", " " + w, w + "\n", w + "\x00", w + " " + w, w + ";"} {
			if lex.IsWord(s) || lex.IsName(s) {
				t.Errorf("%q", s)
			}
		}
	}
}

// P3.1: names.
func TestNames(t *testing.T) {
	for _, s := range []string{"x", "X", "_", "__", "_9", "a_b", "a1b2", "zZ09_", "re", "integer", "intss", strings.Repeat("q", api.MaxText)} {
		if one(t, s) != (lex.Token{Kind: lex.Name, Text: s, Line: 1, Col: 1}) || !lex.IsName(s) || lex.IsWord(s) {
			t.Errorf("%.20s", s)
		}
	}
	for _, s := range []string{"", " ", "9", "9x", "0_", "a b", "a-b", "a.", ".a", "#a", "é", "aé", "éa", "a\xff", "\xffa", "a\n", "a\x00", "\uff41", "a//", "\u017f", "\u212a"} {
		if lex.IsName(s) || lex.IsWord(s) {
			t.Errorf("%q", s)
		}
	}
	if s := strings.Repeat("q", api.MaxText+1); !lex.IsName(s) {
		t.Error("a long name")
	}
}

// P3.1: whether all of a text is a name, a word, by form: all texts of up to two bytes.
func TestIsNameOfAllShort(t *testing.T) {
	check := func(s string) {
		word := slices.Contains(words, s)
		if lex.IsWord(s) != word || lex.IsName(s) != (nameForm.MatchString(s) && !word) {
			t.Errorf("%q", s)
		}
	}
	for a := range 256 {
		check(string([]byte{byte(a)}))
		for b := range 256 {
			check(string([]byte{byte(a), byte(b)}))
		}
	}
}

// P3.1: each sign, and the longer one of two.
func TestSigns(t *testing.T) {
	if len(signs) != 20 {
		t.Fatal(len(signs))
	}
	for _, s := range signs {
		if one(t, s) != (lex.Token{Kind: lex.Sign, Text: s, Line: 1, Col: 1}) || lex.IsName(s) || lex.IsWord(s) {
			t.Errorf("%s", s)
		}
	}
	for s, want := range map[string]string{"===": "== =", "====": "== ==", "<==": "<= =", "<=<": "<= <", "<<=": "< <=", "=!=": "= !=", "!==": "!= =", "= =": "= =", "< =": "< =", "/ /": "/ /", "/*/": "/ * /", "--": "- -", "=<": "= <"} {
		got, fault := lex.Lex(s)
		if texts := strings.TrimSpace(strings.Join(textsOf(got), " ")); fault != (api.Fault{}) || texts != want {
			t.Errorf("%s: %s, %v", s, texts, fault)
		}
	}
	faultAt(t, "!", 1, 1)
	faultAt(t, "! =", 1, 1)
	faultAt(t, "a !b", 1, 3)
	faultAt(t, "!!=", 1, 1)
	faultAt(t, "!=!", 1, 3)
}

// P3.1: a single stroke is a sign, two are a note.
func TestStrokes(t *testing.T) {
	for s, want := range map[string]string{"/": "/", "a/b": "a / b", "a//b": "a", "a///b": "a", "a/ /b": "a / / b", "//": "", "a//b\nc": "a c", "//a//b\n//c\nd": "d", "a/\n/b": "a / / b"} {
		got, fault := lex.Lex(s)
		if texts := strings.TrimSpace(strings.Join(textsOf(got), " ")); fault != (api.Fault{}) || texts != want {
			t.Errorf("%q: %s, %v", s, texts, fault)
		}
	}
}

// P3.1: whole numbers.
func TestInts(t *testing.T) {
	for s, n := range map[string]uint64{"0": 0, "1": 1, "9": 9, "10": 10, "100": 100, "1000000000000000000": 1e18, "9223372036854775806": 1<<63 - 2, "9223372036854775807": 1<<63 - 1} {
		if one(t, s) != (lex.Token{Kind: lex.Int, Text: s, N: n, Line: 1, Col: 1}) {
			t.Errorf("%s: %v", s, one(t, s))
		}
	}
	for _, s := range []string{"00", "01", "007", "00x", "0x1", "0b1", "1_000", "1_", "0_", "1e5", "1x", "9223372036854775808", "18446744073709551615", "18446744073709551616", "99999999999999999999", strings.Repeat("9", api.MaxText), strings.Repeat("0", api.MaxText)} {
		faultAt(t, s, 1, 1)
	}
	faultAt(t, "-00", 1, 2)
	faultAt(t, "12é", 1, 3)
	if got, _ := lex.Lex("1.5"); strings.Join(textsOf(got), " ") != "1 . 5 " {
		t.Error(got)
	}
}

// P3.1: reals: sixteen digits, small letters, and nothing that goes on.
func TestReals(t *testing.T) {
	for s, n := range map[string]uint64{"#0000000000000000": 0, "#7ff8000000000000": 0x7ff8000000000000, "#8000000000000000": 1 << 63, "#ffffffffffffffff": 1<<64 - 1, "#0123456789abcdef": 0x0123456789abcdef, "#fedcba9876543210": 0xfedcba9876543210, "#0000000000000001": 1} {
		if one(t, s) != (lex.Token{Kind: lex.Real, Text: s, N: n, Line: 1, Col: 1}) {
			t.Errorf("%s: %v", s, one(t, s))
		}
	}
	for _, s := range []string{"#", "# 7ff8000000000000", "#7", "#7ff800000000000", "#7ff80000000000000", "#7FF8000000000000", "#7ff800000000000F", "#7ff800000000000g", "#7ff800000000000_", "#7ff8_00000000000", "#7ff8000000000000x", "#7ff8000000000000_", "##7ff800000000000", "#-ff8000000000000", "#0x00000000000000", "#let", "#é", "#7ff800000000000é"} {
		faultAt(t, s, 1, 1)
	}
	faultAt(t, "#7ff8000000000000#", 1, 18)
	faultAt(t, "#7ff8000000000000é", 1, 18)
	got, fault := lex.Lex("#7ff8000000000000#7ff8000000000000;")
	if fault != (api.Fault{}) || len(got) != 4 || got[1].Col != 18 {
		t.Error(got, fault)
	}
}

// P3.1: what lies between tokens, and the places of these.
func TestBetween(t *testing.T) {
	got, fault := lex.Lex(" \t\r\n// é \xff a\r\n\n\ta\r b// c\n//\n  1 //é\n#0000000000000001==\n// end é")
	want := []lex.Token{
		{Kind: lex.Name, Text: "a", Line: 4, Col: 2},
		{Kind: lex.Name, Text: "b", Line: 4, Col: 5},
		{Kind: lex.Int, Text: "1", N: 1, Line: 6, Col: 3},
		{Kind: lex.Real, Text: "#0000000000000001", N: 1, Line: 7, Col: 1},
		{Kind: lex.Sign, Text: "==", Line: 7, Col: 18},
		{Kind: lex.End, Line: 8, Col: 10},
	}
	if fault != (api.Fault{}) || !slices.Equal(got, want) {
		t.Errorf("%v, %v", got, fault)
	}
	for s, end := range map[string][2]int{"": {1, 1}, " ": {1, 2}, "\t": {1, 2}, "\r": {1, 2}, "\n": {2, 1}, "\n\n": {3, 1}, "\r\n": {2, 1}, "//": {1, 3}, "// a": {1, 5}, "//\n": {2, 1}, "//\r": {1, 4}, "//é": {1, 5}, " \n// x": {2, 5}, "//\n ": {2, 2}} {
		got, fault := lex.Lex(s)
		if fault != (api.Fault{}) || len(got) != 1 || got[0] != (lex.Token{Line: end[0], Col: end[1]}) {
			t.Errorf("%q: %v, %v", s, got, fault)
		}
	}
	for _, s := range []string{"\v", "\f", "\x00", "\u00a0", "\u0085", "\u2028", "\ufeff"} {
		faultAt(t, s, 1, 1)
		faultAt(t, "a\n "+s, 2, 2)
	}
}

// P3.1: letters that begin no token, where they first stand.
func TestNoTokens(t *testing.T) {
	begins := "abcdefghijklmnopqrstuvwxyzABCDEFGHIJKLMNOPQRSTUVWXYZ_0123456789{}()[];:,.=<+-*/% \t\r\n"
	for b := range 256 {
		s := string([]byte{byte(b)})
		got, fault := lex.Lex(s)
		if (fault == (api.Fault{})) != strings.Contains(begins, s) {
			t.Errorf("%q: %v, %v", s, got, fault)
		}
		if fault.Err != api.OK {
			faultAt(t, s, 1, 1)
			faultAt(t, "x1"+s, 1, 3)
			faultAt(t, "x\n// \n  =="+s+s, 3, 5)
		}
	}
	faultAt(t, "a\n 1x ! é", 2, 2)
	faultAt(t, "// é\né", 2, 1)
}

// P3.1: the greatest text, and one more; the size is told first.
func TestSizes(t *testing.T) {
	if api.MaxText != 8192 {
		t.Fatal(api.MaxText)
	}
	for _, s := range []string{" ", "a", ";", "\n", "/", "é"} {
		full := strings.Repeat(s, 8192/len(s))
		checkText(t, full)
		for _, more := range []string{full + " ", full + "é", "!" + full} {
			got, fault := lex.Lex(more)
			if fault != (api.Fault{Err: api.ErrSize, Line: 1, Col: 1}) || len(got) != 0 {
				t.Errorf("%.10q: %v", s, fault)
			}
		}
	}
	got, fault := lex.Lex(strings.Repeat("a ", 4096))
	if fault != (api.Fault{}) || len(got) != 4097 || got[4096] != (lex.Token{Line: 1, Col: 8193}) {
		t.Error(len(got), fault)
	}
}

// P3.1, P3.2: all short texts of all bytes, and longer ones of the letters that matter.
func TestAllShort(t *testing.T) {
	for a := range 256 {
		checkText(t, string([]byte{byte(a)}))
		for b := range 256 {
			checkText(t, string([]byte{byte(a), byte(b)}))
		}
	}
	letters := "aZ_09f#=!</ \n\té;"
	for _, a := range letters {
		for _, b := range letters {
			for _, c := range letters {
				for _, d := range letters {
					checkText(t, fmt.Sprintf("%c%c%c%c", a, b, c, d))
				}
			}
		}
	}
}

// P3.1, P3.2: long texts of parts that are mostly tokens.
func TestManyParts(t *testing.T) {
	parts := slices.Concat(words, signs, []string{"x", "_1", "Q9", "intx", "0", "7", "9223372036854775807", "#3ff0000000000000", " ", "\n", "\t", "\r", "// note é\n", "  "})
	wrong := []string{"!", "é", "#1", "01", "9223372036854775808", "\x00", ">", "//"}
	r := rand.New(rand.NewSource(3))
	for range 3000 {
		var s strings.Builder
		for range r.Intn(60) {
			s.WriteString(parts[r.Intn(len(parts))])
			if r.Intn(2) == 0 {
				s.WriteString(" ")
			}
			if r.Intn(100) == 0 {
				s.WriteString(wrong[r.Intn(len(wrong))])
			}
		}
		checkText(t, s.String())
	}
}

// P3.2: every pair of tokens, told with a blank between, is the same pair.
func TestAgain(t *testing.T) {
	parts := slices.Concat(words, signs, []string{"x", "_1", "0", "12", "9223372036854775807", "#0123456789abcdef"})
	for _, a := range parts {
		for _, b := range parts {
			got, fault := lex.Lex(a + " " + b)
			if fault != (api.Fault{}) || len(got) != 3 || got[0].Text != a || got[1].Text != b || got[0].Kind != one(t, a).Kind || got[1].Kind != one(t, b).Kind {
				t.Fatalf("%s %s: %v, %v", a, b, got, fault)
			}
			checkAgain(t, got)
		}
	}
}

// Rule 3: the tokens of one answer are no others'.
func TestNewMemory(t *testing.T) {
	first, _ := lex.Lex("a b")
	kept := slices.Clone(first)
	second, _ := lex.Lex("a b")
	for i := range second {
		second[i] = lex.Token{Text: "other"}
	}
	if !slices.Equal(first, kept) {
		t.Error(first)
	}
}
