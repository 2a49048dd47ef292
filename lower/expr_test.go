package lower_test

import (
	"fmt"
	"math"
	"strings"
	"testing"

	"padlock/num"
)

// locals: statements behind which there is a local of each type, in the slots 0 to 4; and the lines of their code.
const (
	locals = "let i = 7; let x = real 1; let m = nil ints; let r = nil R; let s = nil S; "
	slots  = "int! real! ints! ref0! ref1!"
	lines  = "0 calc [7]\n1 calc d1 [1 widen]\n2 calc d2 [0]\n3 calc d3 [0]\n4 calc d4 [0]\n"
	recs   = "record R { v: int; x: real; m: ints; r: R; s: S; } record S { a: R; b: int; } global i: int; global x: real; global m: ints; global r: R; global s: S; "
)

// expressions: an expression, its items, and the type of the slot that it is in.
var expressions = [][3]string{
	{"0", "[0]", "int!"}, {"12", "[12]", "int!"}, {"-12", "[12 neg]", "int!"},
	{"9223372036854775807", "[#7fffffffffffffff]", "int!"}, {"-9223372036854775807", "[#7fffffffffffffff neg]", "int!"},
	{"#3ff8000000000000", "[#3ff8000000000000]", "real!"}, {"-#3ff8000000000000", "[#3ff8000000000000 negreal]", "real!"},
	{"nil ints", "[0]", "ints!"}, {"nil R", "[0]", "ref0!"}, {"nil S", "[0]", "ref1!"},
	{"input 0", "[in0]", "int!"}, {"input 15", "[in15]", "int!"},
	{"i", "[s0]", "int!"}, {"x", "[s1]", "real!"}, {"m", "[s2]", "ints!"}, {"r", "[s3]", "ref0!"}, {"s", "[s4]", "ref1!"},
	{"-i", "[s0 neg]", "int!"}, {"-x", "[s1 negreal]", "real!"}, {"--x", "[s1 negreal negreal]", "real!"}, {"--i", "[s0 neg neg]", "int!"},
	{"real i", "[s0 widen]", "real!"}, {"trunc x", "[s1 narrow]", "int!"},
	{"-real i", "[s0 widen negreal]", "real!"}, {"real -i", "[s0 neg widen]", "real!"}, {"-trunc x", "[s1 narrow neg]", "int!"}, {"trunc -x", "[s1 negreal narrow]", "int!"},
	{"real trunc real i", "[s0 widen narrow widen]", "real!"},
	{"1 + 2", "[1 2 int+]", "int!"}, {"i - 2", "[s0 2 int-]", "int!"}, {"1 * i", "[1 s0 int*]", "int!"}, {"i / input 3", "[s0 in3 int/]", "int!"}, {"i % 2", "[s0 2 int%]", "int!"},
	{"i == 2", "[s0 2 int==]", "int!"}, {"i != 2", "[s0 2 int!=]", "int!"}, {"i < 2", "[s0 2 int<]", "int!"}, {"i <= 2", "[s0 2 int<=]", "int!"},
	{"x + real 2", "[s1 2 widen real+]", "real!"}, {"x - x", "[s1 s1 real-]", "real!"}, {"x * -x", "[s1 s1 negreal real*]", "real!"}, {"real i / x", "[s0 widen s1 real/]", "real!"},
	{"x == x", "[s1 s1 real==]", "int!"}, {"x != x", "[s1 s1 real!=]", "int!"}, {"x < real 3", "[s1 3 widen real<]", "int!"}, {"x <= x", "[s1 s1 real<=]", "int!"},
	{"r == nil R", "[s3 0 ref==]", "int!"}, {"nil R != r", "[0 s3 ref!=]", "int!"}, {"s == s", "[s4 s4 ref==]", "int!"}, {"m != nil ints", "[s2 0 ref!=]", "int!"}, {"m == m", "[s2 s2 ref==]", "int!"},
	{"1 - 2 - 3", "[1 2 int- 3 int-]", "int!"}, {"1 - (2 - 3)", "[1 2 3 int- int-]", "int!"}, {"1 + 2 * 3", "[1 2 3 int* int+]", "int!"}, {"(1 + 2) * 3", "[1 2 int+ 3 int*]", "int!"},
	{"-(1 + i)", "[1 s0 int+ neg]", "int!"}, {"-(x + x)", "[s1 s1 real+ negreal]", "real!"}, {"real (1 + i)", "[1 s0 int+ widen]", "real!"}, {"trunc (x * x)", "[s1 s1 real* narrow]", "int!"},
	// A comparison is a whole number, of whatever: what is reckoned of it goes by that.
	{"(x < x) + 1", "[s1 s1 real< 1 int+]", "int!"}, {"-(x == x)", "[s1 s1 real== neg]", "int!"}, {"real (r == r)", "[s3 s3 ref== widen]", "real!"}, {"(m == m) == (x < x)", "[s2 s2 ref== s1 s1 real< int==]", "int!"},
	{"-(r != nil R)", "[s3 0 ref!= neg]", "int!"}, {"(x <= x) * (s != s)", "[s1 s1 real<= s4 s4 ref!= int*]", "int!"},
	{"trunc x + i", "[s1 narrow s0 int+]", "int!"}, {"real i + x", "[s0 widen s1 real+]", "real!"},
}

// P10.1: each kind of expression, of each type.
func TestExpressions(t *testing.T) {
	for _, e := range expressions {
		asThread(t, recs, locals+"let y = "+e[0]+";", "most 6 ("+slots+" "+e[2]+")\n"+lines+"5 calc d5 "+e[1]+"\n6 halt")
	}
}

// P10.1: the same expressions wherever else one may stand: printed, as what If asks, as an argument, an index, what is stored, how many cells there are to be.
func TestWhereExpressionsStand(t *testing.T) {
	call := "fun f(i: int, y: int) { } fun g(y: real) { } fun h(m: ints) { } fun k(r: R) { } fun l(s: S) { } "
	callees := map[string]string{"int!": "call f(3, ", "real!": "call g(", "ints!": "call h(", "ref0!": "call k(", "ref1!": "call l("}
	globals := map[string]string{"int!": "i", "real!": "x", "ints!": "m", "ref0!": "r", "ref1!": "s"}
	numbers := map[string]string{"int!": "", "real!": " n1", "ints!": " n2", "ref0!": " n3", "ref1!": " n4"}
	for _, e := range expressions {
		text, items, kind := e[0], e[1], e[2]
		ahead := "most %d (" + slots
		if kind == "int!" {
			asThread(t, recs+call, locals+callees[kind]+text+");", fmt.Sprintf(ahead+" int! int!)\n", 7)+lines+"5 calc d5 [3]\n6 calc d6 "+items+"\n7 halt")
			asThread(t, recs, locals+"if "+text+" { }", fmt.Sprintf(ahead+")\n", 6)+lines+"5 zero >6 "+items+"\n6 halt")
			asThread(t, recs, locals+"print "+text+";", fmt.Sprintf(ahead+")\n", 6)+lines+"5 putint "+items+"\n6 halt")
			asThread(t, recs, locals+"atomic { set m["+text+"] = 2; let y = load m["+text+"]; let z = new ints "+text+"; set s.b = "+text+"; set m[1] = "+text+"; }", fmt.Sprintf(ahead+" int! ints!)\n", 12)+lines+
				"5 begin\n6 storee s2 at"+items+" [2]\n7 loade d5 s2 at"+items+"\n8 makeints d6 "+items+"\n9 storef s4 r1 n1 "+items+"\n10 storee s2 at[1] "+items+"\n11 leave\n12 halt")
		} else {
			asThread(t, recs+call, locals+callees[kind]+text+");", fmt.Sprintf(ahead+" "+kind+")\n", 6)+lines+"5 calc d5 "+items+"\n6 halt")
		}
		if kind == "real!" {
			asThread(t, recs, locals+"print "+text+";", fmt.Sprintf(ahead+")\n", 6)+lines+"5 putreal "+items+"\n6 halt")
		}
		asThread(t, recs, locals+"var y = "+text+"; y = "+text+";", fmt.Sprintf(ahead+" "+strings.TrimSuffix(kind, "!")+")\n", 7)+lines+"5 calc d5 "+items+"\n6 calc d5 "+items+"\n7 halt")
		asThread(t, recs, locals+"atomic { set "+globals[kind]+" = "+text+"; }", fmt.Sprintf(ahead+")\n", 8)+lines+"5 begin\n6 storeg"+numbers[kind]+" "+items+"\n7 leave\n8 halt")
		if kind != "ref1!" {
			asThread(t, recs, locals+"atomic { set r."+strings.ReplaceAll(globals[kind], "i", "v")+" = "+text+"; }", fmt.Sprintf(ahead+")\n", 8)+lines+"5 begin\n6 storef s3"+numbers[kind]+" "+items+"\n7 leave\n8 halt")
		}
	}
}

// P10.1: the bits of reals are tidied, all others stay.
func TestRealBits(t *testing.T) {
	for bits, want := range map[uint64]uint64{
		0: 0, 1 << 63: 1 << 63, 1: 1, math.MaxUint64: num.NaN, num.NaN: num.NaN, num.NaN + 1: num.NaN, num.NaN | 1<<63: num.NaN,
		0x7ff0000000000000: 0x7ff0000000000000, 0xfff0000000000000: 0xfff0000000000000, 0x7ff0000000000001: num.NaN, 0xfff0000000000001: num.NaN, 0x7fffffffffffffff: num.NaN, 0x7fefffffffffffff: 0x7fefffffffffffff,
	} {
		real := fmt.Sprintf("#%016x", bits)
		c := lowered(t, "fun f(x: real) { } global x: real; thread { print "+real+"; let x = "+real+" + -"+real+"; call f("+real+"); if "+real+" == x { } atomic { set x = "+real+"; } }")
		code := c.Threads[0].Code
		for at, places := range [][]int{{0}, {0, 1}, {0}, {0}, {}, {0}} {
			for _, n := range places {
				if got := code[at].Items[n].N; got != want {
					t.Errorf("%s at %d: %x, not %x", real, at, got, want)
				}
			}
		}
	}
	// A whole number of the same bits stays as it is.
	asThread(t, "", "print 9221120237041090561;", "most 1 ()\n0 putint [#7ff8000000000001]\n1 halt")
}
