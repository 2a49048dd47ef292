package parse_test

import (
	"regexp"
	"slices"
	"strings"

	"padlock/api"
	"padlock/lex"
)

// grammar: the chapter's rules, as they stand there.
const grammar = `
program = { item }
item    = "record" Name "{" { named ";" } "}" | "global" named ";"
        | "fun" Name "(" [ named { "," named } ] ")" block | "thread" block
named   = Name ":" type
type    = "int" | "real" | "ints" | Name
block   = "{" { stmt } "}"
stmt    = ("let" | "var") Name "=" right ";" | Name "=" right ";"
        | "set" place "=" expr ";" | "print" expr ";"
        | "if" expr block [ "else" block ] | "atomic" block
        | [ Name ":" ] "loop" Int block
        | ("break" | "continue") [ Name ] ";"
        | "call" Name "(" [ expr { "," expr } ] ")" ";"
right   = "load" place | "new" Name | "new" "ints" expr | "size" Name | expr
place   = Name | Name "." Name | Name "[" expr "]"
expr    = sum [ ("==" | "!=" | "<" | "<=") sum ]
sum     = product { ("+" | "-") product }
product = prefix { ("*" | "/" | "%") prefix }
prefix  = ("-" | "real" | "trunc") prefix | atom
atom    = Int | Real | Name | "input" Int | "nil" Name | "nil" "ints" | "(" expr ")"
`

// form: a part of a rule: a token ('t'), a rule's name ('r'), or some parts in a row ('s'), one of which ('a'), once or not ('o'), any number of times ('m').
type form struct {
	kind  byte
	text  string
	parts []*form
}

var rules = readRules()

var ruleToken = regexp.MustCompile(`"[^"]*"|[A-Za-z]+|[=|(){}\[\]]`)

func readRules() map[string]*form {
	out := map[string]*form{}
	all := ruleToken.FindAllString(grammar, -1)
	for len(all) > 0 {
		name := all[0]
		end := len(all)
		for i := 3; i < len(all); i++ {
			if all[i] == "=" {
				end = i - 1
				break
			}
		}
		rest := all[2:end]
		out[name] = readChoice(&rest)
		if len(rest) > 0 {
			panic(name)
		}
		all = all[end:]
	}
	return out
}

func readChoice(rest *[]string) *form {
	choice := &form{kind: 'a'}
	for {
		row := &form{kind: 's'}
		for len(*rest) > 0 && !strings.Contains("|)]}", (*rest)[0]) {
			row.parts = append(row.parts, readPart(rest))
		}
		choice.parts = append(choice.parts, row)
		if len(*rest) == 0 || (*rest)[0] != "|" {
			return choice
		}
		*rest = (*rest)[1:]
	}
}

func readPart(rest *[]string) *form {
	text := (*rest)[0]
	*rest = (*rest)[1:]
	switch {
	case strings.Contains("([{", text):
		inner := readChoice(rest)
		*rest = (*rest)[1:]
		return &form{kind: map[string]byte{"(": 'a', "[": 'o', "{": 'm'}[text], parts: []*form{inner}}
	case text[0] == '"':
		return &form{kind: 't', text: strings.Trim(text, `"`)}
	case slices.Contains([]string{"Name", "Int", "Real"}, text):
		return &form{kind: 't', text: "<" + text + ">"}
	}
	return &form{kind: 'r', text: text}
}

// still: what is to come behind what was read, from the next part on; nil: nothing any more.
type still struct {
	part *form
	rest *still
}

// state: all that may be still to come. It is never changed: a step makes another one.
type state []*still

func atBegin() state { return spread(nil, &still{part: &form{kind: 'r', text: "program"}}) }

// spread: a row that begins with a token is kept; any other one is what its first part may be.
func spread(out state, s *still) state {
	if s == nil || s.part.kind == 't' {
		return append(out, s)
	}
	p := s.part
	switch p.kind {
	case 'r':
		return spread(out, &still{rules[p.text], s.rest})
	case 's':
		rest := s.rest
		for _, part := range slices.Backward(p.parts) {
			rest = &still{part, rest}
		}
		return spread(out, rest)
	case 'a':
		for _, part := range p.parts {
			out = spread(out, &still{part, s.rest})
		}
		return out
	case 'o':
		return spread(spread(out, s.rest), &still{p.parts[0], s.rest})
	}
	return spread(spread(out, s.rest), &still{p.parts[0], s})
}

// nameOf: how the rules name a token.
func nameOf(t lex.Token) string {
	switch t.Kind {
	case lex.Name:
		return "<Name>"
	case lex.Int:
		return "<Int>"
	case lex.Real:
		return "<Real>"
	}
	return t.Text
}

// step: what may be still to come behind a token; none, if it can't go on.
func (s state) step(t lex.Token) state {
	var out state
	for _, one := range s {
		if one != nil && one.part.text == nameOf(t) {
			out = spread(out, one.rest)
		}
	}
	return out
}

// mayEnd: whether the text may end here.
func (s state) mayEnd() bool { return slices.Contains(s, nil) }

// tooDeep: the place of the first token, of a text that follows the rules up to it, that makes it deeper than may be; len(tokens), if there is none. It knows from the tokens next to each one what this is.
func tooDeep(tokens []lex.Token) int {
	text := func(i int) string {
		if i < 0 {
			return ""
		}
		return tokens[i].Text
	}
	var open []byte // b: a block, a: an atom's bracket, p: a prefix, o: another bracket
	ended := func() {
		for len(open) > 0 && open[len(open)-1] == 'p' {
			open = open[:len(open)-1]
		}
	}
	for i, t := range tokens {
		behindKid := i > 0 && (slices.Contains([]lex.Kind{lex.Name, lex.Int, lex.Real}, tokens[i-1].Kind) || text(i-1) == ")" || text(i-1) == "ints" && text(i-2) == "nil")
		switch {
		case t.Text == "{" && text(i-2) != "record":
			open = append(open, 'b')
		case t.Text == "(" && text(i-2) != "fun" && text(i-2) != "call":
			open = append(open, 'a')
		case t.Text == "{", t.Text == "(", t.Text == "[":
			open = append(open, 'o')
		case t.Text == "-" && !behindKid, t.Text == "real" && text(i-1) != ":", t.Text == "trunc":
			open = append(open, 'p')
		case t.Text == "}", t.Text == ")", t.Text == "]":
			if len(open) > 0 {
				open = open[:len(open)-1]
			}
			ended()
		case t.Kind == lex.Name, t.Kind == lex.Int, t.Kind == lex.Real, t.Text == "ints":
			ended()
		}
		deep := 0
		for _, o := range open {
			if o != 'o' {
				deep++
			}
		}
		if deep > 12 {
			return i
		}
	}
	return len(tokens)
}

// wrong: the place of the first token that can't go on what stands ahead of it; len(tokens), if there is none.
func wrong(tokens []lex.Token) int {
	s := atBegin()
	for i, t := range tokens {
		if t.Kind == lex.End && s.mayEnd() {
			return len(tokens)
		}
		if s = s.step(t); len(s) == 0 {
			return i
		}
	}
	return len(tokens)
}

// faultOf: the fault that Parse must answer.
func faultOf(text string) api.Fault {
	tokens, fault := lex.Lex(text)
	if fault != (api.Fault{}) {
		return fault
	}
	w, d := wrong(tokens), tooDeep(tokens)
	switch at := min(w, d); {
	case at == len(tokens):
		return api.Fault{}
	case w <= d:
		return api.Fault{Err: api.ErrSyntax, Line: tokens[at].Line, Col: tokens[at].Col}
	default:
		return api.Fault{Err: api.ErrSize, Line: tokens[at].Line, Col: tokens[at].Col}
	}
}
