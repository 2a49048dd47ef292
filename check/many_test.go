package check_test

import (
	"math/rand"
	"slices"
	"strings"
	"testing"

	"padlock/api"
	"padlock/check"
	"padlock/lex"
	"padlock/parse"
)

// told: that what is wrong with a text, which Parse answers a program of, is what another telling says; that Shared is; and P7.2, if nothing is wrong. Not ok: it answers none.
func told(t *testing.T, text string) (api.Errno, bool) {
	t.Helper()
	p, fault := parse.Parse(text)
	if fault.Err != api.OK {
		return 0, false
	}
	got, want := check.Program(p), firstFault(p)
	if got != want {
		t.Fatalf("%s: %v, not %v", text, got, want)
	}
	if got.Err != api.OK {
		return got.Err, true
	}
	for _, thread := range p.Threads {
		if openly(p, thread.Body) {
			t.Fatalf("%s: nothing is wrong, but it touches what is shared", text)
		}
	}
	for _, name := range append(slices.Clone(pool), "nix", "y") {
		if check.Shared(p, name) != reaches(p, name) {
			t.Fatalf("%s: %s", text, name)
		}
	}
	return api.OK, true
}

// enough: that each kind of fault came up that often.
func enough(t *testing.T, counts map[api.Errno]int, least int) {
	t.Helper()
	for _, err := range []api.Errno{api.OK, api.ErrName, api.ErrType, api.ErrShared, api.ErrLabel, api.ErrRecur, api.ErrSize} {
		if counts[err] < least {
			t.Errorf("%d: only %d of %v", err, counts[err], counts)
		}
	}
}

// P7.1, P7.2: texts made by chance, with and without slips.
func TestManyTexts(t *testing.T) {
	t.Parallel()
	counts := map[api.Errno]int{}
	r := rand.New(rand.NewSource(1))
	for i := range 8000 {
		m := &maker{Rand: r, slips: []int{0, 15, 50, 150, 500}[i%5]}
		text := m.program()
		if err, ok := told(t, text); ok {
			counts[err]++
			if m.slips == 0 && err != api.OK {
				t.Fatalf("%s: %v without a slip", text, err)
			}
		}
	}
	enough(t, counts, 40)
}

// P7.1, P7.2: texts in which a token is another one, of the same kind or of any, is left out, or stands twice.
func TestManyChanged(t *testing.T) {
	t.Parallel()
	counts := map[api.Errno]int{}
	r := rand.New(rand.NewSource(2))
	for range 1000 {
		m := &maker{Rand: r}
		tokens, fault := lex.Lex(m.program())
		if fault.Err != api.OK || len(tokens) < 2 {
			continue
		}
		for range 12 {
			if err, ok := told(t, changed(r, tokens[:len(tokens)-1])); ok {
				counts[err]++
			}
		}
	}
	enough(t, counts, 20)
}

// instead: what may stand in the place of a word, or a sign, so that a program often stays one.
var instead = map[string][]string{
	"atomic": {"if 1", "loop 1", "a: loop 1"}, "loop": {"atomic { } loop"}, "let": {"var"}, "var": {"let"}, "int": {"real", "ints", "R"}, "real": {"int", "trunc", "-"}, "ints": {"int", "a", "R"}, "load": {"size", "new", ""}, "size": {"load", ""}, "trunc": {"real", "-"}, "nil": {"new", ""},
	"+": {"%", "<", "=="}, "-": {"+", "real"}, "*": {"%"}, "%": {"/"}, "==": {"<", "+"}, "!=": {"<="}, "<": {"=="}, "<=": {"-"}, ".": {"[ 0 ] ;"},
	"break": {"break a; break", "continue"}, "print": {"break; print", "call a(); print", "let a ="},
}

// changed: the tokens as a text, with one, or two, of them changed.
func changed(r *rand.Rand, tokens []lex.Token) string {
	var out []string
	for _, one := range tokens {
		out = append(out, one.Text)
	}
	for range 1 + r.Intn(2) {
		at := r.Intn(len(tokens))
		switch other := tokens[r.Intn(len(tokens))]; {
		case tokens[at].Kind == lex.Int:
			out[at] = []string{"100", "101", "15", "16"}[r.Intn(4)]
		case tokens[at].Kind == lex.Name:
			out[at] = pool[r.Intn(len(pool))]
		case len(instead[out[at]]) > 0:
			out[at] = instead[out[at]][r.Intn(len(instead[out[at]]))]
		case r.Intn(4) == 0:
			out[at] = other.Text
		}
	}
	return strings.Join(out, " ")
}
