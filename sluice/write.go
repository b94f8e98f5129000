package sluice

import (
	"strings"

	"sluice/layout"
)

// writer writes the code of an image.
type writer struct {
	names map[string]*variable
	code  []byte
	spare byte // the cell behind all variables: there CASE keeps its number
	keeps bool // whether one does
}

func (p program) image(names map[string]*variable) string {
	cells := p.layCells()
	w := writer{names: names, spare: byte(len(cells))}
	w.stmts(p.body)
	w.put(layout.End)
	if w.keeps {
		cells = append(cells, cellByte(layout.Variable, layout.Dint))
	}
	var out strings.Builder
	out.WriteString(layout.Mark)
	out.WriteByte(byte(len(cells)))
	out.Write(cells)
	out.Write(twoBytes(len(w.code)))
	out.Write(w.code)
	return out.String()
}

// layCells gives the variables their cells, in their order.
func (p program) layCells() []byte {
	var cells []byte
	for _, v := range p.variables {
		v.first = byte(len(cells))
		for range v.length {
			cells = append(cells, v.cell())
		}
	}
	return cells
}

func (v *variable) cell() byte {
	if v.kind == timerKind {
		return cellByte(v.role, layout.Dint)
	}
	return cellByte(v.role, byte(v.kind))
}

func cellByte(role, kind byte) byte { return layout.Kinds*role + kind }

func twoBytes(n int) []byte { return []byte{byte(n >> 8), byte(n)} }

func (w *writer) put(bytes ...byte) {
	w.code = append(w.code, bytes...)
}

// number pushes the lowest 32 bits of n.
func (w *writer) number(n int64) {
	w.put(layout.Num, byte(n>>24), byte(n>>16), byte(n>>8), byte(n))
}

// ahead writes a JUMP or UNLESS to a place that is not known yet, and answers
// where to write it once it is.
func (w *writer) ahead(instruction byte) int {
	w.put(instruction, 0, 0)
	return len(w.code) - 2
}

// land makes an instruction written by ahead go on at what comes now.
func (w *writer) land(at int) {
	copy(w.code[at:], twoBytes(len(w.code)))
}

func (w *writer) stmts(list []stmt) {
	for _, s := range list {
		s.write(w)
	}
}

func (e literal) write(w *writer) { w.number(e.value) }

func (e truth) write(w *writer) {
	if e.value {
		w.number(1)
	} else {
		w.number(0)
	}
}

func (e place) write(w *writer) {
	v := w.names[e.name]
	if e.index == nil {
		w.put(layout.Get, v.first)
		return
	}
	e.index.write(w)
	w.put(layout.GetX, v.first, byte(v.length))
}

func (e *pair) write(w *writer) {
	e.left.write(w)
	e.right.write(w)
	w.put(e.op.instruction)
	if e.kind == intKind {
		w.put(layout.Short)
	}
}

func (e negation) write(w *writer) {
	e.part.write(w)
	w.put(layout.Not)
}

func (e short) write(w *writer) {
	e.part.write(w)
	w.put(layout.Short)
}

func (e delay) write(w *writer) {
	e.on.write(w)
	e.span.write(w)
	w.put(layout.Timer, w.names[e.timer].first)
}

func (s setting) write(w *writer) {
	v := w.names[s.place.name]
	if s.place.index == nil {
		s.value.write(w)
		w.put(layout.Set, v.first)
		return
	}
	s.place.index.write(w)
	s.value.write(w)
	w.put(layout.SetX, v.first, byte(v.length))
}

func (s choice) write(w *writer) {
	s.condition.write(w)
	not := w.ahead(layout.Unless)
	w.stmts(s.then)
	if len(s.other) == 0 {
		w.land(not)
		return
	}
	over := w.ahead(layout.Jump)
	w.land(not)
	w.stmts(s.other)
	w.land(over)
}

// One spare cell is enough for all CASEs, also for those in one another: none
// is asked for its number once one of its branches is begun.
func (s selection) write(w *writer) {
	w.keeps = true
	s.value.write(w)
	w.put(layout.Set, w.spare)
	var overs []int
	for _, one := range s.whens {
		w.isOneOf(one.literals)
		not := w.ahead(layout.Unless)
		w.stmts(one.body)
		overs = append(overs, w.ahead(layout.Jump))
		w.land(not)
	}
	w.stmts(s.other)
	for _, over := range overs {
		w.land(over)
	}
}

// isOneOf pushes whether the number that CASE keeps is one of the literals.
func (w *writer) isOneOf(literals []int64) {
	for i, n := range literals {
		w.put(layout.Get, w.spare)
		w.number(n)
		w.put(layout.Eq)
		if i > 0 {
			w.put(layout.Or)
		}
	}
}

// The variable begins one below the first number, and each round begins with
// one more: so it has the last number behind the loop. One below the least
// number is the greatest one, and one more the least again.
func (s loop) write(w *writer) {
	v := w.names[s.name]
	if s.rounds() == 0 {
		w.number(s.first)
		w.put(layout.Set, v.first)
		return
	}
	w.number(s.first - 1)
	w.put(layout.Set, v.first, layout.For)
	w.put(twoBytes(int(s.rounds()))...)
	w.put(layout.Get, v.first)
	w.number(1)
	w.put(layout.Add, layout.Set, v.first)
	w.stmts(s.body)
	w.put(layout.Next)
}
