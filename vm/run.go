package vm

import (
	"sluice/api"
	"sluice/layout"
)

// run is one scan's way through the steps. What Load looked at holds here: no
// step pops from an empty stack, and each NEXT has its FOR open.
type run struct {
	rows   [layout.Instructions]row
	steps  []step
	cells  []cell
	delta  int
	stack  []int32
	rounds []int // of each FOR that is open, the inner ones last: how many rounds are left
	next   int   // the step that is to be done
	done   int
	over   bool
}

func (r *run) toEnd() api.Errno {
	for !r.over {
		if e := r.advance(); e != api.OK {
			return e
		}
	}
	return api.OK
}

// advance pops and pushes as the step's row says, so that the stack is always
// as deep as Load reckoned by the same row.
func (r *run) advance() api.Errno {
	s := r.steps[r.next]
	line := &r.rows[s.op]
	r.next++
	r.done++
	a, b := r.take(line.pops)
	n, e := line.does(r, s, a, b)
	if line.pushes > 0 {
		r.stack = append(r.stack, n)
	}
	return e
}

// take pops two numbers at most: of two, b is the one on top.
func (r *run) take(count int) (a, b int32) {
	rest := len(r.stack) - count
	switch count {
	case 1:
		a = r.stack[rest]
	case 2:
		a, b = r.stack[rest], r.stack[rest+1]
	}
	r.stack = r.stack[:rest]
	return a, b
}
