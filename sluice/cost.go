package sluice

import "sluice/api"

// tooDear stands for every cost above MaxCost, so that loops in one another
// cannot make a cost that no int64 holds.
const tooDear = api.MaxCost + 1

// cells is how many cells all variables have together.
func (p program) cells() int64 {
	var n int64
	for _, v := range p.variables {
		n += v.length
	}
	return n
}

func (p program) cost() int64 { return 1 + costOf(p.body) }

func costOf(list []stmt) int64 {
	var sum int64
	for _, s := range list {
		sum = min(sum+s.cost(), tooDear)
	}
	return sum
}

func (e literal) cost() int64  { return 1 }
func (e truth) cost() int64    { return 1 }
func (e *pair) cost() int64    { return 1 + e.left.cost() + e.right.cost() }
func (e negation) cost() int64 { return 1 + e.part.cost() }
func (e short) cost() int64    { return 1 + e.part.cost() }
func (e delay) cost() int64    { return 1 + e.on.cost() + e.span.cost() }

func (e place) cost() int64 {
	if e.index == nil {
		return 1
	}
	return 1 + e.index.cost()
}

// A place that is set costs what it would cost to read: 1, and its index.
func (s setting) cost() int64 { return s.place.cost() + s.value.cost() }

func (s choice) cost() int64 {
	return 1 + s.condition.cost() + max(costOf(s.then), costOf(s.other))
}

func (s selection) cost() int64 {
	dearest := costOf(s.other)
	literals := 0
	for _, w := range s.whens {
		dearest = max(dearest, costOf(w.body))
		literals += len(w.literals)
	}
	return 1 + s.value.cost() + int64(literals) + dearest
}

func (s loop) cost() int64 { return 1 + s.rounds()*(1+costOf(s.body)) }
