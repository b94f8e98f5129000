package vm

import (
	"math"

	"sluice/api"
)

// action does an instruction. It is given what was popped (a alone, if that is
// one number; 0 for what was not popped), and answers what is to be pushed.
type action func(r *run, s step, a, b int32) (int32, api.Errno)

// reckoned is an action that looks at numbers of the stack alone.
func reckoned(f func(a, b int32) int32) action {
	return func(_ *run, _ step, a, b int32) (int32, api.Errno) {
		return f(a, b), api.OK
	}
}

// divided is a reckoned action that can't be done, if b is 0.
func divided(f func(a, b int32) int32) action {
	return func(_ *run, _ step, a, b int32) (int32, api.Errno) {
		if b == 0 {
			return 0, api.ErrZero
		}
		return f(a, b), api.OK
	}
}

func doEnd(r *run, _ step, _, _ int32) (int32, api.Errno) {
	r.over = true
	return 0, api.OK
}

func doNum(_ *run, s step, _, _ int32) (int32, api.Errno) {
	return int32(s.arg), api.OK
}

func doGet(r *run, s step, _, _ int32) (int32, api.Errno) {
	return r.cells[s.arg].value, api.OK
}

func doSet(r *run, s step, a, _ int32) (int32, api.Errno) {
	r.cells[s.arg].lay(int(a))
	return 0, api.OK
}

func doGetX(r *run, s step, index, _ int32) (int32, api.Errno) {
	if !s.hasIndex(index) {
		return 0, api.ErrIndex
	}
	return r.cells[s.arg+int(index)].value, api.OK
}

func doSetX(r *run, s step, index, n int32) (int32, api.Errno) {
	if !s.hasIndex(index) {
		return 0, api.ErrIndex
	}
	r.cells[s.arg+int(index)].lay(int(n))
	return 0, api.OK
}

func (s step) hasIndex(index int32) bool {
	return index >= 0 && int(index) < s.count
}

func doJump(r *run, s step, _, _ int32) (int32, api.Errno) {
	r.next = s.to
	return 0, api.OK
}

func doUnless(r *run, s step, a, _ int32) (int32, api.Errno) {
	if a == 0 {
		r.next = s.to
	}
	return 0, api.OK
}

func doFor(r *run, s step, _, _ int32) (int32, api.Errno) {
	r.rounds = append(r.rounds, s.arg)
	return 0, api.OK
}

func doNext(r *run, s step, _, _ int32) (int32, api.Errno) {
	inner := len(r.rounds) - 1
	r.rounds[inner]--
	if r.rounds[inner] > 0 {
		r.next = s.loop + 1
	} else {
		r.rounds = r.rounds[:inner]
	}
	return 0, api.OK
}

func doTimer(r *run, s step, a, p int32) (int32, api.Errno) {
	c := &r.cells[s.arg]
	if a == 0 {
		c.value = 0
		return 0, api.OK
	}
	// The sum may be too great for an int32, and for an int of 32 bits.
	c.value = int32(min(int64(c.value)+int64(r.delta), math.MaxInt32))
	return truth(c.value >= p), api.OK
}
