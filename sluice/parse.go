package sluice

import (
	"strconv"

	"sluice/api"
	"sluice/layout"
)

// parser goes through the parts of a text. At the first fault it goes to
// their end, where nothing begins any more: so every loop and call ends.
type parser struct {
	parts []string
	at    int
	depth int
	used  []string
	bad   bool
}

func readProgram(text string) (program, bool) {
	if len(text) > api.MaxText {
		return program{}, false
	}
	parts, ok := split(text)
	if !ok {
		return program{}, false
	}
	p := parser{parts: parts}
	read := p.program()
	return read, !p.bad
}

func (p *parser) fail() {
	p.bad = true
	p.at = len(p.parts)
}

// next is the part that comes now; "" at the end.
func (p *parser) next() string {
	if p.at == len(p.parts) {
		return ""
	}
	return p.parts[p.at]
}

func (p *parser) accept(part string) bool {
	if p.next() != part {
		return false
	}
	p.at++
	return true
}

func (p *parser) expect(part string) {
	if !p.accept(part) {
		p.fail()
	}
}

func (p *parser) expectOne(is func(string) bool) string {
	part := p.next()
	if !is(part) {
		p.fail()
		return ""
	}
	p.at++
	return part
}

func (p *parser) name() string { return p.expectOne(isName) }

// use is a name that must be declared.
func (p *parser) use() string {
	name := p.name()
	p.used = append(p.used, name)
	return name
}

// number is one that stands behind a sign ("" or "-"). Where no int64 holds
// it, ParseInt answers the nearest one that does: outside every kind as well.
func (p *parser) number(sign string) int64 {
	n, _ := strconv.ParseInt(sign+p.expectOne(isNumber), 10, 64)
	return n
}

func (p *parser) literal() int64 {
	if p.accept("-") {
		return p.number("-")
	}
	return p.number("")
}

// enter and leave stand around all that is counted as one step deeper.
func (p *parser) enter() {
	p.depth++
	if p.depth > api.MaxDepth {
		p.fail()
	}
}

func (p *parser) leave() { p.depth-- }

func (p *parser) program() program {
	var variables []*variable
	for role, ok := p.role(); ok; role, ok = p.role() {
		variables = append(variables, p.variable(role))
	}
	p.expect("BEGIN")
	body := p.stmts()
	p.expect("END")
	if p.next() != "" {
		p.fail()
	}
	return program{variables, p.used, body}
}

func (p *parser) role() (byte, bool) {
	switch {
	case p.accept("IN"):
		return layout.Input, true
	case p.accept("OUT"):
		return layout.Output, true
	case p.accept("VAR"):
		return layout.Variable, true
	}
	return 0, false
}

func (p *parser) variable(role byte) *variable {
	v := &variable{name: p.name(), role: role, length: 1}
	p.expect(":")
	if p.accept("TIMER") {
		v.kind = timerKind
	} else {
		v.array = p.accept("ARRAY")
		if v.array {
			v.length = p.number("")
			p.expect("OF")
		}
		v.kind = p.cellKind()
	}
	p.expect(";")
	return v
}

func (p *parser) cellKind() kind {
	switch {
	case p.accept("BOOL"):
		return boolKind
	case p.accept("INT"):
		return intKind
	}
	p.expect("DINT")
	return dintKind
}
