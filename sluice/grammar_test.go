package sluice_test

import (
	"regexp"
	"strings"
	"testing"
)

// A second reading of texts, slower and written otherwise: it follows the
// document's grammar as it is written there, trying all ways.

const grammar = `
program = { ( "IN" | "OUT" | "VAR" ) name ":" type ";" } "BEGIN" stmts "END"
type    = "BOOL" | "INT" | "DINT" | "TIMER" | "ARRAY" number "OF" ( "BOOL" | "INT" | "DINT" )
stmts   = { stmt ";" }
stmt    = place ":=" expr
        | "IF" expr "THEN" stmts [ "ELSE" stmts ] "END"
        | "CASE" expr "OF" { "WHEN" literal { "," literal } ":" stmts } [ "ELSE" stmts ] "END"
        | "FOR" name ":=" literal "TO" literal "DO" stmts "END"
place   = name | name "[" expr "]"
expr    = literal | "TRUE" | "FALSE" | place | "(" expr op expr ")" | "NOT" expr
        | "SHORT" expr | "TON" "(" name "," expr "," expr ")"
op      = "+" | "-" | "*" | "/" | "MOD" | "=" | "<" | "AND" | "OR"
literal = [ "-" ] number
`

var (
	nameForm   = regexp.MustCompile(`^[a-z][a-z0-9_]{0,11}$`)
	numberForm = regexp.MustCompile(`^[0-9]+$`)
	partForm   = regexp.MustCompile(`^[ \n]*([A-Za-z][A-Za-z0-9_]*|[0-9]+|:=|[-:;,()\[\]+*/=<])`)
	ruleForm   = regexp.MustCompile(`"[^"]*"|[a-z]+|[{}()\[\]|]`)
)

var rules = readGrammar()

// rule is a piece of the grammar: a word (text), or pieces that stand one
// behind the other (s), of which one stands (a), which may be left out (o), or
// which stand as often as it goes (m).
type rule struct {
	what   byte
	text   string
	pieces []*rule
}

func readGrammar() map[string]*rule {
	read := map[string]*rule{}
	for _, line := range strings.Split(strings.TrimSpace(strings.ReplaceAll(grammar, "\n        |", " |")), "\n") {
		name, body, _ := strings.Cut(line, " = ")
		rest := ruleForm.FindAllString(body, -1)
		read[strings.TrimSpace(name)] = readRule(&rest)
	}
	return read
}

func readRule(rest *[]string) *rule {
	all := &rule{what: 'a'}
	row := &rule{what: 's'}
	for len(*rest) > 0 {
		word := (*rest)[0]
		*rest = (*rest)[1:]
		switch word {
		case "|":
			all.pieces = append(all.pieces, row)
			row = &rule{what: 's'}
		case "(", "[", "{":
			inner := readRule(rest)
			what := map[string]byte{"(": 'a', "[": 'o', "{": 'm'}[word]
			row.pieces = append(row.pieces, &rule{what: what, pieces: []*rule{inner}})
		case ")", "]", "}":
			all.pieces = append(all.pieces, row)
			return all
		default:
			row.pieces = append(row.pieces, &rule{what: 't', text: word})
		}
	}
	all.pieces = append(all.pieces, row)
	return all
}

// node is a part of a text that has been read: one of a rule, or a word.
type node struct {
	rule string
	text string
	kids []*node
}

type reader struct {
	rules map[string]*rule
	parts []string
}

// goOn is what must come behind.
type goOn func(at int, kids []*node) bool

func (r *reader) try(u *rule, at int, kids []*node, then goOn) bool {
	switch u.what {
	case 't':
		return r.word(u.text, at, kids, then)
	case 's':
		return r.row(u.pieces, at, kids, then)
	case 'a':
		for _, piece := range u.pieces {
			if r.try(piece, at, kids, then) {
				return true
			}
		}
		return false
	case 'o':
		return r.try(u.pieces[0], at, kids, then) || then(at, kids)
	}
	again := func(next int, more []*node) bool { return next > at && r.try(u, next, more, then) }
	return r.try(u.pieces[0], at, kids, again) || then(at, kids)
}

func (r *reader) row(pieces []*rule, at int, kids []*node, then goOn) bool {
	if len(pieces) == 0 {
		return then(at, kids)
	}
	return r.try(pieces[0], at, kids, func(next int, more []*node) bool { return r.row(pieces[1:], next, more, then) })
}

func (r *reader) word(text string, at int, kids []*node, then goOn) bool {
	with := func(n *node) []*node { return append(kids[:len(kids):len(kids)], n) }
	part := ""
	if at < len(r.parts) {
		part = r.parts[at]
	}
	switch {
	case text[0] == '"':
		return `"`+part+`"` == text && then(at+1, with(&node{text: part}))
	case text == "name":
		return nameForm.MatchString(part) && then(at+1, with(&node{rule: text, text: part}))
	case text == "number":
		return numberForm.MatchString(part) && then(at+1, with(&node{rule: text, text: part}))
	}
	return r.try(r.rules[text], at, nil, func(next int, inner []*node) bool { return then(next, with(&node{rule: text, kids: inner})) })
}

// readText is nil, if it is no program.
func readText(text string) *node {
	r := &reader{rules: rules}
	for rest := strings.TrimRight(text, " \n"); rest != ""; {
		found := partForm.FindStringSubmatch(rest)
		if found == nil {
			return nil
		}
		r.parts = append(r.parts, found[1])
		rest = rest[len(found[0]):]
	}
	var root *node
	r.word("program", 0, nil, func(at int, kids []*node) bool {
		if at == len(r.parts) {
			root = kids[0]
		}
		return root != nil
	})
	return root
}

// depth is how deep all that is counted stands in one another.
func (n *node) depth() int {
	deep := 0
	for _, k := range n.kids {
		deep = max(deep, k.depth())
	}
	switch {
	case n.rule == "stmt" && n.kids[0].rule == "", n.rule == "place" && len(n.kids) > 1, n.rule == "expr" && len(n.kids) > 1:
		return deep + 1
	}
	return deep
}

// of is the kids of a rule.
func (n *node) of(rule string) []*node {
	var list []*node
	for _, k := range n.kids {
		if k.rule == rule {
			list = append(list, k)
		}
	}
	return list
}

func TestSecondReading(t *testing.T) {
	for text, deep := range map[string]int{"BEGIN END": 0, "OUT a: INT; BEGIN a := (1 + l[-2]); END": 2,
		"BEGIN IF TON(t, NOT a, 1) THEN FOR i := 1 TO 2 DO END; END; END": 3} {
		if n := readText(text); n == nil || n.depth() != deep {
			t.Errorf("the second reading takes %q for something else", text)
		}
	}
	for _, text := range []string{"", "BEGIN", "BEGIN END;", "BEGIN a := (1); END", "BEGIN\tEND"} {
		if readText(text) != nil {
			t.Errorf("the second reading takes %q for a program", text)
		}
	}
}
