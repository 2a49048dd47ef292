package check_test

import (
	"strings"
	"testing"

	"padlock/api"
	"padlock/check"
)

// types: all, and a local of each that is for ever, and one for now.
var types = []struct{ name, ever, now string }{
	{"int", "i", "vi"}, {"real", "x", "vx"}, {"ints", "m", "vm"}, {"R", "r", "vr"}, {"S", "s", "vs"},
}

// isOf: that a right side is of that type and of no other; "": its types don't go together, at the mark.
func isOf(t *testing.T, right, kind string) {
	t.Helper()
	bare := strings.ReplaceAll(right, "^", "")
	for _, one := range types {
		switch kind {
		case "":
			within(t, head+"\n", []faults{{api.ErrType, seen + one.now + " = " + right + ";"}})
		case one.name:
			within(t, head+"\n", []faults{{api.OK, seen + one.now + " = " + bare + ";"}})
		default:
			within(t, head+"\n", []faults{{api.ErrType, seen + one.now + " = ^" + bare + ";"}})
		}
	}
}

// P7.1: the type of each kind of expression, and which kids it may have.
func TestTypesOfExpressions(t *testing.T) {
	for expr, kind := range map[string]string{
		"0": "int", "9223372036854775807": "int", "input 0": "int", "input 15": "int", "#0000000000000000": "real", "#ffffffffffffffff": "real", "nil ints": "ints", "nil R": "R", "nil S": "S",
		"i": "int", "x": "real", "m": "ints", "r": "R", "s": "S", "vi": "int", "vx": "real", "vm": "ints", "vr": "R", "vs": "S",
		"-i": "int", "-x": "real", "^-m": "", "^-r": "", "^-s": "", "real i": "real", "^real x": "", "^real m": "", "^real r": "", "^real nil S": "", "trunc x": "int", "^trunc i": "", "^trunc m": "", "^trunc nil R": "", "^trunc s": "",
		"--i": "int", "-trunc -real i": "int", "real trunc real 1": "real", "(i)": "int", "((x))": "real", "-(r == r)": "int", "real (x < x)": "real", "^trunc (x < x)": "", "-^-r": "", "real trunc ^real x": "",
		"i + 1 - 2 * 3 / 4 % 5": "int", "x + x - x * x / x": "real", "(x < x) + (r != r)": "int", "x * x ^% x": "", "x ^+ i * i": "", "i + i ^* x": "", "(m == m) == (s == s)": "int", "(x == x) ^== x": "",
	} {
		isOf(t, expr, kind)
	}
}

// P7.1: every op of a Binary, with kids of every two types.
func TestTypesOfBinaries(t *testing.T) {
	results := map[string]func(string) string{}
	for _, sign := range []string{"+", "-", "*", "/"} {
		results[sign] = func(kind string) string { return map[string]string{"int": "int", "real": "real"}[kind] }
	}
	results["%"] = func(kind string) string { return map[string]string{"int": "int"}[kind] }
	for _, sign := range []string{"<", "<="} {
		results[sign] = func(kind string) string { return map[string]string{"int": "int", "real": "int"}[kind] }
	}
	for _, sign := range []string{"==", "!="} {
		results[sign] = func(string) string { return "int" }
	}
	if len(results) != 9 {
		t.Fatal("not all ops")
	}
	for sign, result := range results {
		for _, a := range types {
			for _, b := range types {
				kind := ""
				if a.name == b.name {
					kind = result(a.name)
				}
				mark := map[bool]string{true: "^"}[kind == ""]
				isOf(t, a.ever+" "+mark+sign+" "+b.now, kind)
			}
		}
	}
}

// P7.1: the type of each kind of right side, and of each kind of place.
func TestTypesOfRightSides(t *testing.T) {
	for right, kind := range map[string]string{
		"load n": "int", "load q": "real", "load a": "ints", "load g": "R", "load h": "S", "load r.v": "int", "load r.w": "real", "load r.all": "ints", "load r.next": "R", "load vr.other": "S", "load m[0]": "int", "load vm[i]": "int",
		"new R": "R", "new S": "S", "new ints 3": "ints", "new ints i": "ints", "size m": "int", "size vm": "int", "1": "int", "nil R": "R",
		"load ^i.v": "", "load ^x.v": "", "load ^m.v": "", "load ^i[0]": "", "load ^x[0]": "", "load ^r[0]": "", "load ^s[0]": "", "load m[^x]": "", "load m[^m]": "", "load m[^r]": "", "load m[x ^< m]": "",
		"new ints ^x": "", "new ints ^m": "", "new ints ^r": "", "new ints (1 ^+ x)": "", "^size i": "", "^size x": "", "^size r": "", "^size s": "",
	} {
		isOf(t, right, kind)
	}
}

// P7.1: what else can be wrong within an expression, at it.
func TestExpressions(t *testing.T) {
	within(t, head+"\n", []faults{
		{api.ErrName, "let y = ^nil Nix;"}, {api.ErrName, "let y = 1 + (^nil Nix == nil R);"}, {api.ErrName, "let y = ^nil g;"},
		{api.ErrSize, "print ^input 16;"}, {api.OK, "print input 15 + input 0;"}, {api.ErrSize, "print ^input 9223372036854775807;"}, {api.ErrSize, "print -(1 + ^input 17);"},
		{api.ErrName, "print ^z;"}, {api.ErrName, "print 1 + 2 * ^z;"}, {api.ErrName, "print ^n;"}, {api.ErrName, "print ^none;"},
		// The kids ahead of the expression, the left one ahead of the right one.
		{api.ErrName, "print ^z + real 1;"}, {api.ErrName, "print real 1 + ^z;"}, {api.ErrName, "print ^z + input 16;"}, {api.ErrSize, "print ^input 16 + z;"}, {api.ErrType, "print (1 ^+ real 1) + z;"}, {api.ErrName, "print ^z + (1 + real 1);"}, {api.ErrName, "print (nil R == ^nil Nix) + z;"},
		{api.ErrType, "print 1 + real 1 ^% real 2 + z;"}, {api.ErrType, "print 1 * (2 + (1 ^< real 1)) + real z;"}, {api.ErrType, "print -(^trunc 1);"}, {api.ErrName, "print trunc -^z;"}, {api.ErrType, "print (1 ^+ real 1) * real 1;"}, {api.ErrType, "print (1 + 1) ^* real 1;"}, {api.ErrType, "print real 1 ^< (2 + 1);"},
		{api.ErrType, "print 1 ^+ real 1 + z;"}, {api.ErrType, "print (1 ^- real 1) == (1 + real 1);"}, {api.ErrType, "print (1 - 1) == (1 ^+ real 1);"},
		// Of records that there are, nobodies of one are of no other.
		{api.ErrType, "print nil R ^== nil S;"}, {api.OK, "print nil R == nil R;"}, {api.ErrType, "print nil ints ^!= nil R;"}, {api.OK, "print nil ints != nil ints;"},
	})
}

// P7.1: what can be wrong within a place, in its order.
func TestPlaces(t *testing.T) {
	for _, p := range []faults{
		{api.ErrName, "^z"}, {api.ErrName, "^i"}, {api.ErrName, "^R"}, {api.ErrName, "^none"},
		{api.ErrName, "^z.v"}, {api.ErrName, "^g.v"}, {api.ErrName, "^z[0]"}, {api.ErrName, "^a[0]"},
		{api.ErrType, "^i.v"}, {api.ErrType, "^m.v"}, {api.ErrType, "^r[0]"}, {api.ErrType, "^x[0]"},
		{api.ErrName, "^r.z"}, {api.ErrName, "^s.v"}, {api.ErrName, "^r.R"},
		{api.ErrName, "m[^z]"}, {api.ErrType, "m[^x]"}, {api.ErrSize, "m[^input 16]"}, {api.ErrType, "m[x ^+ x]"}, {api.ErrType, "m[1 ^+ x]"},
		// Base ahead of its type, its type ahead of the field and the Index, the expression ahead of its type.
		{api.ErrName, "^z.z"}, {api.ErrName, "^z[z]"}, {api.ErrType, "^i.z"}, {api.ErrType, "^r[z]"}, {api.ErrType, "^i[1 + x]"}, {api.ErrName, "m[x + ^z]"},
	} {
		within(t, head+"\n", []faults{{p.err, seen + "vi = load " + p.text + ";"}, {p.err, seen + "let y = load " + p.text + ";"}, {p.err, seen + "set " + p.text + " = 1;"}})
	}
	within(t, head+"\n", []faults{
		{api.OK, seen + "let y = load r.next; let z = load y.next; let w = load z.other; set r.other = w; let k = load z.all; let l = size k; set k[l - 1] = 1;"},
	})
}

// P7.1: what can be wrong within a right side.
func TestRightSides(t *testing.T) {
	within(t, head+"\n", []faults{
		{api.ErrName, "let y = ^new Nix;"}, {api.ErrName, "let y = ^new g;"}, {api.ErrName, seen + "let y = ^new r;"}, {api.ErrName, seen + "vi = ^new Nix;"},
		{api.ErrName, "let y = ^size z;"}, {api.ErrName, "let y = ^size a;"}, {api.ErrType, seen + "let y = ^size r;"}, {api.ErrName, seen + "vx = ^size z;"}, {api.ErrType, seen + "vx = ^size x;"},
		{api.ErrName, "let y = new ints ^z;"}, {api.ErrType, "let y = new ints ^real 1;"}, {api.ErrType, "let y = new ints real 1 ^+ 1;"}, {api.ErrType, "let y = new ints real 1 ^+ real 1;"}, {api.ErrSize, seen + "vi = new ints ^input 16;"}, {api.ErrType, seen + "vi = new ints ^x;"},
		{api.ErrName, "let y = ^z;"}, {api.ErrName, "let y = load ^z;"},
	})
}

// P7.1: a record's fields are those of that record alone.
func TestFieldsOfTheirRecord(t *testing.T) {
	each(t, "record A { one: int; b: B; } record B { two: real; a: A; } ", []faults{
		{api.OK, "fun f(a: A, b: B) { let y = load a.one; let z = load b.two; let p = load a.b; let q = load p.a; let w = load q.one; print y + w; print z; set p.two = z; }"},
		{api.ErrName, "fun f(a: A, b: B) { let y = load ^a.two; }"}, {api.ErrName, "fun f(a: A, b: B) { let y = load ^b.one; }"}, {api.ErrName, "fun f(a: A) { let p = load a.b; set ^p.one = 1; }"}, {api.ErrType, "fun f(a: A) { let p = load a.b; set p.two = ^1; }"},
	})
}

// Rules 2 and 7: with nothing wrong there is no place; a fault has one.
func TestPlacesOfFaults(t *testing.T) {
	if got := check.Program(api.Program{}); got != (api.Fault{}) {
		t.Error(got)
	}
	each(t, "", []faults{{api.ErrName, strings.Repeat("\n", 30) + strings.Repeat(" ", 40) + "thread { print ^z; }"}})
}
