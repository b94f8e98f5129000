package vm

import (
	"cmp"
	"slices"

	"sluice/api"
	"sluice/layout"
)

const noLoop = -1

// settle fills in where each step's loop and target are, and tells whether
// the program keeps all rules that need no way through it.
func (p program) settle() bool {
	return p.operandsRight() && endsOnce(p.steps) && nestLoops(p.steps) && aimJumps(p.steps)
}

func (p program) operandsRight() bool {
	for _, s := range p.steps {
		if !p.operandRight(s) {
			return false
		}
	}
	return true
}

func (p program) operandRight(s step) bool {
	switch s.op {
	case layout.Get:
		return p.alike(s.arg, 1)
	case layout.Set:
		return p.alike(s.arg, 1) && p.settable(s.arg)
	case layout.GetX:
		return p.alike(s.arg, s.count)
	case layout.SetX:
		return p.alike(s.arg, s.count) && p.settable(s.arg)
	case layout.Timer:
		return p.alike(s.arg, 1) && p.keepsTime(s.arg)
	case layout.For:
		return s.arg >= 1
	}
	return true
}

// alike tells whether there are count cells from first on (one at least), all
// of one role and kind.
func (p program) alike(first, count int) bool {
	if count < 1 || first+count > len(p.cells) {
		return false
	}
	for _, c := range p.cells[first : first+count] {
		if c.role != p.cells[first].role || c.kind != p.cells[first].kind {
			return false
		}
	}
	return true
}

func (p program) settable(c int) bool {
	return p.cells[c].role != layout.Input
}

func (p program) keepsTime(c int) bool {
	return p.cells[c].role == layout.Variable && p.cells[c].kind == layout.Dint
}

// endsOnce tells whether END is the last step, and no other one.
func endsOnce(steps []step) bool {
	first := slices.IndexFunc(steps, func(s step) bool { return s.op == layout.End })
	return first >= 0 && first == len(steps)-1
}

// nestLoops fills in each step's loop. No list of the open FORs is needed:
// each FOR's own loop is the one that is open again behind its NEXT.
func nestLoops(steps []step) bool {
	loop, open := noLoop, 0
	for i := range steps {
		steps[i].loop = loop
		switch steps[i].op {
		case layout.For:
			loop = i
			open++
			if open > api.MaxNest {
				return false
			}
		case layout.Next:
			if loop == noLoop {
				return false
			}
			loop = steps[loop].loop
			open--
		}
	}
	return loop == noLoop
}

// aimJumps fills in where each JUMP and UNLESS goes on.
func aimJumps(steps []step) bool {
	for i, s := range steps {
		if s.op != layout.Jump && s.op != layout.Unless {
			continue
		}
		to, found := slices.BinarySearchFunc(steps, s.arg, func(other step, at int) int {
			return cmp.Compare(other.at, at)
		})
		if !found || to <= i || steps[to].loop != s.loop {
			return false
		}
		steps[i].to = to
	}
	return true
}
