package vm_test

import (
	"slices"
	"testing"

	"sluice/api"
)

// A second machine, slower and written otherwise, held against the first one:
// it reads the bytes of the image whenever it does them, its numbers are wide
// ones that are wrapped by a remainder, and a loop is a call of its own.

type second struct {
	sorts   string
	code    string
	values  []int64
	stack   []int64
	delta   int64
	done    int
	e       api.Errno
	outputs []int
	steps   int
}

func loadSecond(cells, code string) *second {
	s := &second{sorts: cells, code: code, values: make([]int64, len(cells))}
	s.outputs = s.outputsNow()
	return s
}

func (s *second) outputsNow() []int {
	var list []int
	for i, v := range s.values {
		if s.sorts[i]/3 == 1 {
			list = append(list, int(v))
		}
	}
	return list
}

func wrap(n int64, bits int) int64 {
	whole, half := int64(1)<<bits, int64(1)<<(bits-1)
	return ((n+half)%whole+whole)%whole - half
}

func limits(kind byte) (int64, int64) {
	return []int64{0, -32768, least}[kind], []int64{1, 32767, most}[kind]
}

func (s *second) scan(inputs []int, delta int) api.Errno {
	if s.e != api.OK {
		return s.e
	}
	used := 0
	values := slices.Clone(s.values)
	for i, sort := range []byte(s.sorts) {
		if sort/3 != 0 {
			continue
		}
		low, high := limits(sort % 3)
		if used == len(inputs) || int64(inputs[used]) < low || int64(inputs[used]) > high {
			return api.ErrInput
		}
		values[i] = int64(inputs[used])
		used++
	}
	if used < len(inputs) || delta < 0 || delta > 1000000 {
		return api.ErrInput
	}
	s.values, s.stack, s.delta, s.done = values, nil, int64(delta), 0
	s.do(0)
	s.steps = s.done
	if s.e == api.OK {
		s.outputs = s.outputsNow()
	}
	return s.e
}

// do goes on up to END, an error, or the NEXT that the code from at on has no
// FOR for, and answers where it goes on behind that.
func (s *second) do(at int) int {
	for s.e == api.OK {
		op := s.code[at]
		s.done++
		switch op {
		case 0:
			return len(s.code)
		case 17, 18:
			at = s.goOn(at)
		case 19:
			begin, n := at+3, s.wide(at+1)
			for range n {
				if s.e == api.OK {
					at = s.do(begin)
				}
			}
		case 20:
			return at + 1
		default:
			s.plain(op, at+1)
			at += []int{1, 5, 2, 2, 3, 3, 1, 1, 1, 1, 1, 1, 1, 1, 1, 1, 1, 3, 3, 3, 1, 2}[op]
		}
	}
	return len(s.code)
}

func (s *second) wide(at int) int { return 256*int(s.code[at]) + int(s.code[at+1]) }

func (s *second) pop() int64 {
	n := s.stack[len(s.stack)-1]
	s.stack = s.stack[:len(s.stack)-1]
	return n
}

func (s *second) push(n int64) { s.stack = append(s.stack, n) }

func (s *second) goOn(at int) int {
	if s.code[at] == 17 || s.pop() == 0 {
		return s.wide(at + 1)
	}
	return at + 3
}

func (s *second) lay(c int, n int64) {
	switch s.sorts[c] % 3 {
	case 0:
		s.values[c] = min(n*n, 1)
	case 1:
		s.values[c] = wrap(n, 16)
	case 2:
		s.values[c] = wrap(n, 32)
	}
}

func (s *second) plain(op byte, at int) {
	c := int(s.code[at])
	switch op {
	case 1:
		s.push(wrap(int64(s.wide(at))*65536+int64(s.wide(at+2)), 32))
	case 2:
		s.push(s.values[c])
	case 3:
		s.lay(c, s.pop())
	case 4:
		if i := s.pop(); i < 0 || i >= int64(s.code[at+1]) {
			s.e = api.ErrIndex
		} else {
			s.push(s.values[c+int(i)])
		}
	case 5:
		n := s.pop()
		if i := s.pop(); i < 0 || i >= int64(s.code[at+1]) {
			s.e = api.ErrIndex
		} else {
			s.lay(c+int(i), n)
		}
	case 13:
		s.push(yes(s.pop() == 0))
	case 16:
		s.push(wrap(s.pop(), 16))
	case 21:
		s.time(c)
	default:
		b, a := s.pop(), s.pop()
		s.two(op, a, b)
	}
}

func yes(is bool) int64 {
	return map[bool]int64{true: 1}[is]
}

func (s *second) time(c int) {
	p, a := s.pop(), s.pop()
	if a == 0 {
		s.values[c] = 0
	} else if s.values[c] += s.delta; s.values[c] > most {
		s.values[c] = most
	}
	s.push(yes(a != 0) * yes(s.values[c] >= p))
}

func (s *second) two(op byte, a, b int64) {
	if (op == 9 || op == 10) && b == 0 {
		s.e = api.ErrZero
		return
	}
	switch op {
	case 6:
		s.push(wrap(a+b, 32))
	case 7:
		s.push(wrap(a-b, 32))
	case 8:
		s.push(wrap(a*b, 32))
	case 9:
		s.push(wrap(a/b, 32))
	case 10:
		s.push(wrap(a-b*(a/b), 32))
	case 11:
		s.push(yes(a == b))
	case 12:
		s.push(yes(a < b))
	case 14:
		s.push(yes(a != 0) * yes(b != 0))
	case 15:
		s.push(max(yes(a != 0), yes(b != 0)))
	}
}

// drawer writes right code, by a fixed rule. Its cells are those of drawn.
type drawer struct{ state uint64 }

const drawn = inBool + outInt + inInt + outBool + varDint + varInt + varInt + varInt + inDint + outDint + outDint + varBool + varBool + varDint

func (d *drawer) upTo(n int) int {
	d.state = d.state*6364136223846793005 + 1442695040888963407
	return int(d.state>>33) % n
}

func (d *drawer) number() int {
	edges := []int{0, 1, -1, 2, 3, 7, 100, 32767, 32768, -32768, -32769, 65536, most, least, most - 1}
	if d.upTo(3) == 0 {
		return d.upTo(1<<30) - 1<<29
	}
	return edges[d.upTo(len(edges))]
}

// expr leaves one number on the stack.
func (d *drawer) expr(deep int) string {
	if deep == 0 {
		if d.upTo(2) == 0 {
			return num(d.number())
		}
		return get(byte(d.upTo(len(drawn))))
	}
	switch d.upTo(8) {
	case 0:
		return d.expr(deep-1) + not
	case 1:
		return d.expr(deep-1) + short
	case 2:
		return d.expr(deep-1) + d.expr(deep-1) + timer([]byte{4, 13}[d.upTo(2)])
	case 3:
		return d.index() + getx(5, 3)
	case 4:
		return d.index() + getx(9, 2)
	}
	op := []byte{6, 7, 8, 9, 10, 11, 12, 14, 15}[d.upTo(9)]
	if (op == 9 || op == 10) && d.upTo(4) > 0 {
		return d.expr(deep-1) + num(1+d.upTo(1000)) + string([]byte{op})
	}
	return d.expr(deep-1) + d.expr(deep-1) + string([]byte{op})
}

// index leaves a number that is mostly a good index.
func (d *drawer) index() string {
	if d.upTo(15) == 0 {
		return d.expr(1)
	}
	return num(d.upTo(2 + d.upTo(15)/14))
}

// block is statements that begin at a byte of the code, and leave the stack as
// it is.
func (d *drawer) block(at, deep, room int) string {
	code := ""
	for range 1 + d.upTo(room) {
		code += d.statement(at+len(code), deep)
	}
	return code
}

func (d *drawer) statement(at, deep int) string {
	kind := d.upTo(8)
	if deep == 0 {
		kind = d.upTo(5)
	}
	switch kind {
	case 5, 6:
		return d.choice(at, deep)
	case 7:
		return loop(1+d.upTo(4)) + d.block(at+3, deep-1, 3) + next
	case 4:
		return d.index() + d.expr(2) + setx(5, 3)
	}
	return d.expr(d.upTo(4)) + set([]byte{1, 3, 4, 5, 6, 7, 9, 10, 11, 12, 13}[d.upTo(11)])
}

func (d *drawer) choice(at, deep int) string {
	condition := d.expr(1)
	at += len(condition) + 3
	first := d.block(at, deep-1, 2)
	if d.upTo(2) == 0 {
		return condition + unless(at+len(first)) + first
	}
	other := d.block(at+len(first)+3, deep-1, 2)
	behind := at + len(first) + 3 + len(other)
	return condition + unless(at+len(first)+3) + first + jump(behind) + other
}

func (d *drawer) inputs() []int {
	list := []int{d.upTo(2), d.upTo(65536) - 32768, d.number()}
	if d.upTo(12) == 0 {
		list[d.upTo(3)] = d.number()
	}
	if d.upTo(20) == 0 {
		list = append(list, 0)[d.upTo(3):]
	}
	return list
}

func (d *drawer) delta() int {
	return []int{0, 1, 50, api.MaxDelta, d.upTo(api.MaxDelta), d.upTo(api.MaxDelta), api.MaxDelta + 1, -1}[min(d.upTo(8), d.upTo(8))]
}

func TestAgainstTheSecondMachine(t *testing.T) {
	d := &drawer{state: 1}
	seen := map[api.Errno]int{}
	for range 4000 {
		code := d.block(0, 3, 4) + end
		if len(code) > api.MaxCode {
			continue
		}
		m, other := load(t, image(drawn, code)), loadSecond(drawn, code)
		for range 8 {
			inputs, delta := d.inputs(), d.delta()
			want := other.scan(inputs, delta)
			wantScan(t, "a drawn image", m, inputs, delta, state{want, other.outputs, other.steps})
			seen[want]++
		}
		if t.Failed() {
			t.Fatalf("the code is %q", code)
		}
	}
	for _, e := range []api.Errno{api.OK, api.ErrInput, api.ErrZero, api.ErrIndex} {
		if seen[e] < 500 {
			t.Errorf("only %d scans ended with %d", seen[e], e)
		}
	}
}
