package sluice

import (
	"slices"

	"sluice/layout"
)

const maxLength = 16

// checker looks at all that Types says. What is wrong stays wrong, so it goes
// on behind a fault, and any kind will do as the answer there.
type checker struct {
	names map[string]*variable
	loops []string // the names of the FORs around
	wrong bool
}

func (p program) wellTyped(names map[string]*variable) bool {
	c := checker{names: names}
	for _, v := range p.variables {
		c.want(v.kind != timerKind || v.role == layout.Variable)
		c.want(1 <= v.length && v.length <= maxLength)
	}
	c.stmts(p.body)
	return !c.wrong
}

func (c *checker) want(ok bool) {
	if !ok {
		c.wrong = true
	}
}

func (c *checker) stmts(list []stmt) {
	for _, s := range list {
		s.check(c)
	}
}

func (k kind) isNumber() bool { return k == intKind || k == dintKind }

// holds tells whether a number is one of a kind of numbers.
func (k kind) holds(n int64) bool {
	if k == intKind {
		return int64(int16(n)) == n
	}
	return int64(int32(n)) == n
}

func (e literal) kindIn(c *checker) kind {
	if intKind.holds(e.value) {
		return intKind
	}
	c.want(dintKind.holds(e.value))
	return dintKind
}

func (e truth) kindIn(*checker) kind { return boolKind }

func (e place) kindIn(c *checker) kind {
	v := c.names[e.name]
	c.want(v.array == (e.index != nil))
	if e.index != nil {
		c.want(e.index.kindIn(c).isNumber())
	}
	return v.kind
}

func (e *pair) kindIn(c *checker) kind {
	left, right := e.left.kindIn(c), e.right.kindIn(c)
	numbers := left.isNumber() && right.isNumber()
	truths := left == boolKind && right == boolKind
	e.kind = boolKind
	switch e.op.family {
	case reckons:
		c.want(numbers)
		e.kind = max(left, right) // DINT is the greater one
	case equals:
		c.want(numbers || truths)
	case compares:
		c.want(numbers)
	case joins:
		c.want(truths)
	}
	return e.kind
}

func (e negation) kindIn(c *checker) kind {
	c.want(e.part.kindIn(c) == boolKind)
	return boolKind
}

func (e short) kindIn(c *checker) kind {
	c.want(e.part.kindIn(c).isNumber())
	return intKind
}

func (e delay) kindIn(c *checker) kind {
	c.want(c.names[e.timer].kind == timerKind)
	c.want(e.on.kindIn(c) == boolKind)
	c.want(e.span.kindIn(c).isNumber())
	return boolKind
}

func (s setting) check(c *checker) {
	to, from := s.place.kindIn(c), s.value.kindIn(c)
	c.want(from == to || from == intKind && to == dintKind)
	c.want(to != timerKind && c.names[s.place.name].role != layout.Input)
	c.want(!slices.Contains(c.loops, s.place.name))
}

func (s choice) check(c *checker) {
	c.want(s.condition.kindIn(c) == boolKind)
	c.stmts(s.then)
	c.stmts(s.other)
}

func (s selection) check(c *checker) {
	c.want(s.value.kindIn(c).isNumber())
	for _, w := range s.whens {
		for _, n := range w.literals {
			c.want(dintKind.holds(n))
		}
		c.stmts(w.body)
	}
	c.stmts(s.other)
}

func (s loop) check(c *checker) {
	v := c.names[s.name]
	c.want(v.role == layout.Variable && v.kind.isNumber() && !v.array)
	c.want(!slices.Contains(c.loops, s.name))
	c.want(v.kind.holds(s.first) && v.kind.holds(s.last))
	c.loops = append(c.loops, s.name)
	c.stmts(s.body)
	c.loops = c.loops[:len(c.loops)-1]
}
