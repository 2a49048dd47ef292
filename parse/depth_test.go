package parse_test

import (
	"slices"
	"strings"
	"testing"

	"padlock/api"
)

// layer: what makes an expression, or a row of statements, one deeper: what stands ahead of it and behind it. The mark ^ stands ahead of the first token that does so.
type layer struct{ ahead, behind string }

var (
	itemLayers = []layer{{"thread ^{ ", " }"}, {"fun f() ^{ ", " }"}, {"fun f(a: int, b: R) ^{ ", " }"}}
	stmtLayers = []layer{
		{"atomic ^{ ", " }"}, {"if x ^{ ", " }"}, {"if x ^{ ", " } else { }"}, {"if x ^{ } else { ", " }"},
		{"loop 3 ^{ ", " }"}, {"out: loop 3 ^{ ", " }"}, {"print 1; atomic ^{ print 2; ", " print 3; } print 4;"},
	}
	exprLayers = []layer{
		{"^( ", " )"}, {"^- ", ""}, {"^real ", ""}, {"^trunc ", ""}, {"^( 1 + ", " * 2 )"}, {"^( y < ", " - 1 )"},
	}
	// Around an expression stands a statement, which makes it no deeper.
	holders = []layer{
		{"print ", ";"}, {"let x = ", ";"}, {"x = ", ";"}, {"set g = ", ";"}, {"set x[", "] = 1;"}, {"let x = load y[", "];"},
		{"let x = new ints ", ";"}, {"call f(", ");"}, {"call f(1, ", ", 2);"}, {"print 1 - ", ";"},
	}
)

// around: layers around a core, the first one outermost; the mark of the last one alone is left.
func around(core string, layers ...layer) string {
	text := core
	for i, l := range slices.Backward(layers) {
		if i < len(layers)-1 {
			l.ahead = strings.Replace(l.ahead, "^", "", 1)
		}
		text = l.ahead + text + l.behind
	}
	return text
}

// deepest: that layers around a core may be, and that one more of each kind may not.
func deepest(t *testing.T, core string, layers, more []layer) {
	t.Helper()
	parsed(t, strings.Replace(around(core, layers...), "^", "", 1))
	for _, m := range more {
		sizeAt(t, around(core, slices.Concat(layers, []layer{m})...))
	}
}

// turns: so many layers, taken in turn, from the k-th on.
func turns(of []layer, k, n int) []layer {
	var out []layer
	for i := range n {
		out = append(out, of[(k+i)%len(of)])
	}
	return out
}

// P5.1: blocks as deep as may be, each kind alone, and mixed, and one deeper.
func TestDeepBlocks(t *testing.T) {
	if api.MaxDepth != 12 {
		t.Fatal(api.MaxDepth)
	}
	for _, item := range itemLayers {
		for k, one := range stmtLayers {
			deepest(t, "print 1;", slices.Concat([]layer{item}, slices.Repeat([]layer{one}, 11)), stmtLayers)
			deepest(t, "", slices.Concat([]layer{item}, turns(stmtLayers, k, 11)), stmtLayers)
		}
	}
}

// P5.1: brackets and prefixes as deep as may be, each kind alone, and mixed, within any number of blocks, and one deeper.
func TestDeepExprs(t *testing.T) {
	for blocks := 1; blocks <= 12; blocks++ {
		for h, holder := range holders {
			outer := slices.Concat(itemLayers[h%3:h%3+1], turns(stmtLayers, h, blocks-1), []layer{holder})
			for k, one := range exprLayers {
				deepest(t, "x", slices.Concat(outer, slices.Repeat([]layer{one}, 12-blocks)), exprLayers)
				deepest(t, "nil ints", slices.Concat(outer, turns(exprLayers, k, 12-blocks)), exprLayers)
			}
		}
	}
}

const (
	twelveBlocks = "thread { atomic { atomic { atomic { atomic { atomic { atomic { atomic { atomic { atomic { atomic { atomic { "
	elevenBlocks = "thread { atomic { atomic { atomic { atomic { atomic { atomic { atomic { atomic { atomic { atomic { "
)

func ends(n int) string { return strings.Repeat(" }", n) }

// P5.1: an if's expression makes its blocks no deeper, and its Body its Else no deeper.
func TestDeepIfs(t *testing.T) {
	parsed(t, elevenBlocks+"if (x) { print 1; } else { print 2; }"+ends(11))
	parsed(t, elevenBlocks+"if -x { } else { }"+ends(11))
	sizeAt(t, elevenBlocks+"if (^(x)) { }"+ends(11))
	sizeAt(t, elevenBlocks+"if -^-x { }"+ends(11))
	sizeAt(t, elevenBlocks+"if (x) { print ^-x; }"+ends(11))
	sizeAt(t, elevenBlocks+"if -x { } else { print ^(x); }"+ends(11))
	sizeAt(t, elevenBlocks+"if -x { } else { atomic ^{ } }"+ends(11))
	sizeAt(t, twelveBlocks+"if x ^{ } else { }"+ends(12))
}

func brackets(n int) string { return strings.Repeat("(", n) + "x" + strings.Repeat(")", n) }
func minuses(n int) string  { return strings.Repeat("-", n) + "x" }
func blocks(n int) string   { return strings.Repeat("atomic { ", n) + strings.Repeat("} ", n) }

// tooManyBrackets, tooManyMinuses, tooManyBlocks: one more than n, with the mark at that one.
func tooManyBrackets(n int) string {
	return strings.Repeat("(", n) + "^(x)" + strings.Repeat(")", n)
}
func tooManyMinuses(n int) string { return strings.Repeat("-", n) + "^-x" }
func tooManyBlocks(n int) string {
	return strings.Repeat("atomic { ", n) + "atomic ^{ } " + strings.Repeat("} ", n)
}

// P5.1: how deep it is once a bracket or a prefix has ended: as deep as ahead of it.
func TestDeepBehindExprs(t *testing.T) {
	for _, e := range []string{
		"x", brackets(11), minuses(11), "-(-(-(-(-(-1)))))", "real trunc (1)", "-nil ints", "-nil R", "-input 3",
		"-#0000000000000000", "-(-(-1) + -(2))", "(1)", "-1", "real 1", "trunc 1",
	} {
		for _, sign := range strings.Fields("+ - * / % == != < <=") {
			ahead := "thread { print " + e + " " + sign + " "
			parsed(t, ahead+brackets(11)+"; }")
			parsed(t, ahead+minuses(11)+"; }")
			sizeAt(t, ahead+tooManyBrackets(11)+"; }")
			sizeAt(t, ahead+tooManyMinuses(11)+"; }")
		}
		parsed(t, "thread { call f("+e+", "+e+", "+brackets(11)+"); set x["+e+"] = "+minuses(11)+"; "+blocks(11)+"}")
		sizeAt(t, "thread { call f("+e+", "+e+", "+tooManyBrackets(11)+"); }")
		sizeAt(t, "thread { set x["+e+"] = "+tooManyMinuses(11)+"; }")
		sizeAt(t, "thread { let y = load x["+e+"]; print "+tooManyMinuses(11)+"; }")
		sizeAt(t, "thread { print "+e+"; "+tooManyBlocks(11)+"}")
		sizeAt(t, "thread { if "+e+" { } else { } "+tooManyBlocks(11)+"}")
		sizeAt(t, "thread { if "+e+" { "+tooManyBlocks(10)+"} }")
	}
}

// P5.1: a prefix, or a bracket, is one deeper up to its end: what stands within is, what stands behind isn't.
func TestDeepUpToEnds(t *testing.T) {
	for _, e := range []string{"(-1 * @)", "-(2 * @)", "(real 1 + @)", "real (x - @)", "((1) < @)", "(@ * 2)", "-(@)"} {
		outer := 1
		if !strings.HasPrefix(e, "(") {
			outer = 2
		}
		text := "thread { print " + e + "; }"
		parsed(t, strings.Replace(text, "@", brackets(11-outer), 1))
		parsed(t, strings.Replace(text, "@", minuses(11-outer), 1))
		sizeAt(t, strings.Replace(text, "@", tooManyBrackets(11-outer), 1))
		sizeAt(t, strings.Replace(text, "@", tooManyMinuses(11-outer), 1))
	}
}

// P5.1: how deep it is once a block has ended.
func TestDeepBehindBlocks(t *testing.T) {
	many := strings.Repeat(blocks(11), 5)
	parsed(t, "thread { "+many+"print "+brackets(11)+"; "+many+"} fun f() { "+blocks(11)+"} thread { print "+minuses(11)+"; }")
	sizeAt(t, "thread { "+many+tooManyBlocks(11)+"}")
	sizeAt(t, "thread { "+many+"print "+tooManyBrackets(11)+"; }")
	sizeAt(t, "thread { "+many+"print "+tooManyMinuses(11)+"; }")
	sizeAt(t, "thread { "+many+"} thread { "+tooManyBlocks(11)+"}")
	sizeAt(t, "fun f() { "+many+"} fun g() { "+tooManyBlocks(11)+"}")
	parsed(t, "thread { if x { "+blocks(10)+"} else { "+blocks(10)+"} "+blocks(11)+"}")
	sizeAt(t, "thread { if x { "+blocks(10)+"} else { "+tooManyBlocks(10)+"} }")
	sizeAt(t, "thread { if x { "+blocks(10)+"} else { "+blocks(10)+"} "+tooManyBlocks(11)+"}")
	sizeAt(t, "thread { loop 1 { "+blocks(10)+blocks(10)+tooManyBlocks(10)+"} }")
}

// P5.1: what makes it no deeper: a record's brackets, those of parameters, of arguments, of an index; signs between two; a type that is a prefix's word.
func TestNotDeeper(t *testing.T) {
	parsed(t, twelveBlocks+"call f(1, x); set x[0] = y - 1; let z = load x[i - 1]; let n = new ints 3 - 2; x = nil ints - 1 - 2; break; "+ends(12))
	parsed(t, "record R { a: int; b: real; } fun f(a: real, b: real) { "+strings.Repeat("atomic { ", 11)+ends(12))
	for _, inner := range []string{
		"call f(^(1));", "call f(1, ^-x);", "set x[^(0)] = 1;", "set x[0] = ^-1;", "let z = load x[^-1];", "let n = new ints ^-3;",
		"print 1 - ^-1;", "print nil ints - ^(1);", "print nil R * ^real 1;", "x = ^trunc 1;", "if ^(x) {}", "if x ^{}", "loop 3 ^{}", "out: loop 3 ^{}", "atomic ^{}",
	} {
		sizeAt(t, twelveBlocks+inner+ends(12))
	}
	parsed(t, "thread { print "+strings.Repeat("x - ", 1000)+"x; }")
	parsed(t, "thread { print "+strings.Repeat("-x * ", 1000)+"x; }")
	parsed(t, "thread { "+strings.Repeat("atomic { } ", 700)+"}")
}

// P5.1: a text that is both wrong and too deep: what stands first counts.
func TestWrongAndDeep(t *testing.T) {
	sizeAt(t, "thread { print "+tooManyBrackets(11)+" + ; }")
	sizeAt(t, "thread { print (((((((((((^(")
	sizeAt(t, "thread { print (((((((((((^(; }")
	sizeAt(t, "thread { print (((((((((((^(}")
	sizeAt(t, "thread { print (((((((((((^-")
	sizeAt(t, "thread { print (((((((((((^trunc real } x")
	sizeAt(t, twelveBlocks+"atomic ^{ x")
	sizeAt(t, twelveBlocks+"loop 1 ^{")
	sizeAt(t, twelveBlocks+"print ^( atomic")
	syntaxAt(t, "^x thread { print ((((((((((((1")
	syntaxAt(t, "thread { print ^; print ((((((((((((1))))))))))))); }")
	syntaxAt(t, "thread { print 1 + ^* ((((((((((((1")
	syntaxAt(t, twelveBlocks+strings.Repeat("}", 12)+"^} "+twelveBlocks+"atomic {")
}

// P5.1: a token that can't go on is wrong, whatever it would begin where it can.
func TestWrongAtTheDeepest(t *testing.T) {
	for _, inner := range []string{
		"^", "^{", "^(", "^-", "^real", "x ^(", "x ^-", "x ^{", "atomic ^", "atomic ^(", "print ^", "print ^{", "print 1 ^(", "print x ^real x", "print x ^{",
		"set ^-x = 1;", "set ^(x) = 1;", "loop ^-1 { }", "loop ^(1) { }", "loop ^{", "call f ^{", "call f ^-", "call ^(", "let x = load ^(g);", "let x = size ^-g;", "let ^-",
		"let x = new ^(", "let x = new ^real", "print nil ^real;", "print nil ^(R);", "print input ^-1;", "print input ^(1);", "break ^(", "continue ^-", "x: ^{", "set x.^-", "set x[1] ^{",
	} {
		syntaxAt(t, twelveBlocks+inner)
	}
	for _, inner := range []string{"1^(1", "x ^real x", "^{", "1^;", "1 ^trunc", "nil ^(", "input ^-"} {
		syntaxAt(t, "thread { print ((((((((((("+inner)
	}
}
