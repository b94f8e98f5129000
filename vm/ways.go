package vm

import (
	"container/heap"

	"sluice/api"
	"sluice/layout"
)

// tooMany stands for every count of steps above MaxSteps, so that nested
// loops cannot make a count that no int holds.
const tooMany = api.MaxSteps + 1

// firsts is a heap of steps, the first one in the code on top.
type firsts []int

func (f firsts) Len() int           { return len(f) }
func (f firsts) Less(i, j int) bool { return f[i] < f[j] }
func (f firsts) Swap(i, j int)      { f[i], f[j] = f[j], f[i] }
func (f *firsts) Push(x any)        { *f = append(*f, x.(int)) }

func (f *firsts) Pop() any {
	last := len(*f) - 1
	x := (*f)[last]
	*f = (*f)[:last]
	return x
}

// arrival is what is known of a step that can be come to.
type arrival struct {
	known bool
	depth int // how many numbers are on the stack ahead of it
	done  int // the most steps done ahead of it, in a FOR since its round began
}

// walk goes through the steps that can be come to. All ways lead on to later
// steps: when a step is the first of those that wait, all ways to it are known.
type walk struct {
	steps    []step
	rows     [layout.Instructions]row
	arrivals []arrival
	waiting  firsts
	bound    int
}

// findBound answers the bound of a settled program (tooMany, if it is above
// MaxSteps), and whether its stack is right and each step can be come to.
func findBound(steps []step) (int, bool) {
	w := walk{steps: steps, rows: table(), arrivals: make([]arrival, len(steps))}
	w.come(0, 0, 0)
	passed := 0
	for w.waiting.Len() > 0 {
		if !w.pass(heap.Pop(&w.waiting).(int)) {
			return 0, false
		}
		passed++
	}
	return w.bound, passed == len(steps)
}

// come notes one way to a step. It answers false, if another way to it left
// another depth.
func (w *walk) come(i, depth, done int) bool {
	a := &w.arrivals[i]
	if !a.known {
		*a = arrival{known: true, depth: depth, done: done}
		heap.Push(&w.waiting, i)
		return true
	}
	a.done = max(a.done, done)
	return a.depth == depth
}

// pass looks at a step's stack, and goes on to where it leads.
func (w *walk) pass(i int) bool {
	s, a := w.steps[i], w.arrivals[i]
	r := w.rows[s.op]
	depth := a.depth - r.pops + r.pushes
	if a.depth < r.pops || depth > api.MaxStack {
		return false
	}
	done := add(a.done, 1)
	switch s.op {
	case layout.End:
		w.bound = done
		return a.depth == 0
	case layout.Jump:
		return w.come(s.to, depth, done)
	case layout.Unless:
		return w.come(s.to, depth, done) && w.come(i+1, depth, done)
	case layout.For:
		return w.come(i+1, depth, 0)
	case layout.Next:
		return w.leave(i, done)
	}
	return w.come(i+1, depth, done)
}

// leave goes on behind a NEXT, whose FOR's rounds each do as many steps as
// given at most.
func (w *walk) leave(i, round int) bool {
	loop := w.steps[i].loop
	begin := w.arrivals[loop]
	if w.arrivals[i].depth != begin.depth {
		return false
	}
	rounds := multiply(w.steps[loop].arg, round)
	return w.come(i+1, begin.depth, add(add(begin.done, 1), rounds))
}

func add(a, b int) int {
	return min(a+b, tooMany)
}

// multiply divides ahead of it because the product itself might be too great
// for an int. Both numbers are 1 at least.
func multiply(a, b int) int {
	if b > tooMany/a {
		return tooMany
	}
	return a * b
}
