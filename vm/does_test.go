package vm_test

import (
	"slices"
	"testing"

	"sluice/api"
	"sluice/vm"
)

const (
	least = -1 << 31
	most  = 1<<31 - 1
)

func load(t *testing.T, s string) *vm.Machine {
	t.Helper()
	m, e := vm.Load(s)
	if m == nil || e != api.OK {
		t.Fatalf("P3: Load(%.200q): %d", s, e)
	}
	return m
}

// state is all that a machine tells behind a scan.
type state struct {
	e       api.Errno
	outputs []int
	steps   int
}

func wantScan(t *testing.T, name string, m *vm.Machine, inputs []int, delta int, want state) {
	t.Helper()
	e := m.Scan(inputs, delta)
	outputs, steps := m.Outputs(), m.Steps()
	if e != want.e || !slices.Equal(outputs, want.outputs) || steps != want.steps {
		t.Errorf("P4: %s: Scan(%d, %d): error %d, outputs %d, %d steps, want %v", name, inputs, delta, e, outputs, steps, want)
	}
	if steps > m.Bound() {
		t.Errorf("P8: %s: %d steps, and the bound is %d", name, steps, m.Bound())
	}
}

// reckon looks at an instruction of two numbers, which come from cells, and
// then from the code; another number below them is to stay.
func reckon(t *testing.T, name, op string, a, b int, want state) {
	t.Helper()
	m := load(t, image(inDint+inDint+outDint, get(0), get(1), op, set(2), end))
	wantScan(t, name, m, []int{a, b}, 0, want)
	if want.e == api.OK {
		m = load(t, image(outDint+outDint, num(77), num(a), num(b), op, set(0), set(1), end))
		wantScan(t, name, m, nil, 0, state{api.OK, append(want.outputs, 77), want.steps + 2})
	}
}

type reckoning struct{ a, b, want int }

func TestInstructionsOfTwoNumbers(t *testing.T) {
	for _, of := range []struct {
		name, op string
		list     []reckoning
	}{
		{"ADD", add, []reckoning{{2, 3, 5}, {-2, 3, 1}, {most, 1, least}, {least, -1, most}, {least, least, 0}, {most, most, -2}}},
		{"SUB", sub, []reckoning{{2, 3, -1}, {3, 2, 1}, {least, 1, most}, {most, -1, least}, {0, least, least}, {least, least, 0}}},
		{"MUL", mul, []reckoning{{3, -4, -12}, {65536, 65536, 0}, {65536, 32768, least}, {most, 2, -2}, {least, -1, least}, {most, most, 1}, {0, least, 0}}},
		{"DIV", div, []reckoning{{7, 2, 3}, {-7, 2, -3}, {7, -2, -3}, {-7, -2, 3}, {1, 2, 0}, {-1, 2, 0}, {0, 5, 0}, {least, -1, least}, {least, 1, least}, {least, most, -1}, {most, -1, -most}, {5, least, 0}}},
		{"MOD", mod, []reckoning{{7, 2, 1}, {-7, 2, -1}, {7, -2, 1}, {-7, -2, -1}, {6, 3, 0}, {least, -1, 0}, {least, most, -1}, {5, least, 5}, {least, 10, -8}}},
		{"EQ", eq, []reckoning{{4, 4, 1}, {4, 5, 0}, {-4, 4, 0}, {least, least, 1}, {least, most, 0}, {0, 65536, 0}}},
		{"LT", lt, []reckoning{{4, 5, 1}, {5, 4, 0}, {4, 4, 0}, {-1, 0, 1}, {least, most, 1}, {most, least, 0}, {least, 1, 1}}},
		{"AND", and, []reckoning{{1, 1, 1}, {2, -1, 1}, {1, 2, 1}, {2, 0, 0}, {0, 2, 0}, {0, 0, 0}, {least, 65536, 1}}},
		{"OR", or, []reckoning{{1, 1, 1}, {2, -2, 1}, {2, 0, 1}, {0, -5, 1}, {0, 0, 0}, {least, 0, 1}, {0, 65536, 1}}},
	} {
		for _, c := range of.list {
			reckon(t, of.name, of.op, c.a, c.b, state{api.OK, []int{c.want}, 5})
		}
	}
	for _, a := range []int{0, 1, -1, 7, least, most} {
		reckon(t, "DIV by 0", div, a, 0, state{api.ErrZero, []int{0}, 3})
		reckon(t, "MOD by 0", mod, a, 0, state{api.ErrZero, []int{0}, 3})
	}
}

func TestInstructionsOfOneNumber(t *testing.T) {
	for _, c := range []struct {
		name, op string
		a, want  int
	}{
		{"NOT", not, 0, 1}, {"NOT", not, 1, 0}, {"NOT", not, -4, 0}, {"NOT", not, 65536, 0}, {"NOT", not, least, 0},
		{"SHORT", short, 0, 0}, {"SHORT", short, -1, -1}, {"SHORT", short, 32767, 32767}, {"SHORT", short, 32768, -32768},
		{"SHORT", short, -32768, -32768}, {"SHORT", short, -32769, 32767}, {"SHORT", short, 65535, -1}, {"SHORT", short, 65536, 0},
		{"SHORT", short, least, 0}, {"SHORT", short, most, -1},
	} {
		m := load(t, image(inDint+outDint, get(0), c.op, set(1), end))
		wantScan(t, c.name, m, []int{c.a}, 0, state{api.OK, []int{c.want}, 4})
		m = load(t, image(outDint+outDint, num(77), num(c.a), c.op, set(0), set(1), end))
		wantScan(t, c.name, m, nil, 0, state{api.OK, []int{c.want, 77}, 6})
	}
}

func TestNumbersArePushed(t *testing.T) {
	for _, n := range []int{0, 1, -1, 255, 256, -256, 65535, 65536, 0x12345678, -0x12345678, most, least} {
		m := load(t, image(outDint, num(n), set(0), end))
		wantScan(t, "NUM", m, nil, 0, state{api.OK, []int{n}, 3})
	}
	m := load(t, image(outDint+outDint+outDint, num(1), num(2), num(3), set(0), set(1), set(2), end))
	wantScan(t, "the last one pushed is popped first", m, nil, 0, state{api.OK, []int{3, 2, 1}, 7})
	m = load(t, image(outDint, times(api.MaxStack, num(3)), times(api.MaxStack-1, add), set(0), end))
	wantScan(t, "a full stack", m, nil, 0, state{api.OK, []int{96}, 65})
}

// laidAs is what a number is in a BOOL and in an INT; in a DINT it is itself.
var laidAs = [][3]int{
	{0, 0, 0}, {1, 1, 1}, {2, 1, 2}, {-1, 1, -1}, {256, 1, 256}, {32767, 1, 32767}, {32768, 1, -32768}, {-32768, 1, -32768},
	{-32769, 1, 32767}, {65535, 1, -1}, {65536, 1, 0}, {65537, 1, 1}, {least, 1, 0}, {most, 1, -1}, {70000, 1, 4464}, {-70000, 1, -4464},
}

func TestNumbersAreLaidIntoCells(t *testing.T) {
	plain := load(t, image(inDint+outBool+outInt+outDint, get(0), set(1), get(0), set(2), get(0), set(3), end))
	indexed := load(t, image(inDint+outBool+outInt+outDint, num(0), get(0), setx(1, 1), num(0), get(0), setx(2, 1), num(0), get(0), setx(3, 1), end))
	inside := load(t, image(inDint+varBool+varInt+varDint+outDint+outDint+outDint,
		get(0), set(1), get(0), set(2), get(0), set(3), get(1), set(4), num(0), getx(2, 1), set(5), get(3), set(6), end))
	for _, c := range laidAs {
		want := []int{c[1], c[2], c[0]}
		wantScan(t, "SET", plain, c[:1], 0, state{api.OK, want, 7})
		wantScan(t, "SETX", indexed, c[:1], 0, state{api.OK, want, 10})
		wantScan(t, "SET of variables", inside, c[:1], 0, state{api.OK, want, 14})
	}
}

func TestIndexes(t *testing.T) {
	fill := num(10) + set(1) + num(11) + set(2) + num(12) + set(3)
	cells := inDint + varInt + varInt + varInt + outInt
	for i := range 3 {
		m := load(t, image(cells, fill, get(0), getx(1, 3), set(4), end))
		wantScan(t, "GETX", m, []int{i}, 0, state{api.OK, []int{10 + i}, 10})
		m = load(t, image(inDint+outInt+outInt+outInt+outInt+outInt, get(0), num(5), setx(2, 3), end))
		want := make([]int, 5)
		want[1+i] = 5
		wantScan(t, "SETX", m, []int{i}, 0, state{api.OK, want, 4})
	}
	for _, i := range []int{-1, 3, 4, -3, 256, 65536, least, most} {
		m := load(t, image(cells, fill, get(0), getx(1, 3), set(4), end))
		wantScan(t, "GETX outside", m, []int{i}, 0, state{api.ErrIndex, []int{0}, 8})
		m = load(t, image(inDint+outInt+outInt+outInt+outInt, get(0), num(5), setx(1, 3), end))
		wantScan(t, "SETX outside", m, []int{i}, 0, state{api.ErrIndex, []int{0, 0, 0, 0}, 3})
	}
	m := load(t, image(inInt+inInt+inInt+outInt, num(2), getx(0, 3), set(3), end))
	wantScan(t, "GETX of inputs", m, []int{4, 5, 6}, 0, state{api.OK, []int{6}, 4})
	m = load(t, image(outDint+outDint, num(1), num(9), setx(0, 2), num(1), getx(0, 2), num(1), add, set(0), end))
	wantScan(t, "GETX of outputs", m, nil, 0, state{api.OK, []int{10, 9}, 9})
	m = load(t, image(times(99, varInt)+outInt, num(98), num(7), setx(0, 99), get(98), set(99), end))
	wantScan(t, "SETX of the last of many", m, nil, 0, state{api.OK, []int{7}, 6})
	m = load(t, image(inDint+outInt, get(0), getx(1, 1), set(1), end))
	wantScan(t, "GETX of one cell", m, []int{0}, 0, state{api.OK, []int{0}, 4})
	wantScan(t, "GETX of one cell, outside", m, []int{1}, 0, state{api.ErrIndex, []int{0}, 2})
}

func TestJumps(t *testing.T) {
	m := load(t, image(inDint+outInt, get(0), unless(15), num(1), set(1), jump(22), num(2), set(1), end))
	for _, c := range []struct {
		in, want, steps int
	}{{0, 2, 5}, {1, 1, 6}, {-1, 1, 6}, {65536, 1, 6}, {least, 1, 6}, {0, 2, 5}} {
		wantScan(t, "UNLESS and JUMP", m, []int{c.in}, 0, state{api.OK, []int{c.want}, c.steps})
	}
	m = load(t, image("", num(0), unless(8), end))
	wantScan(t, "UNLESS that goes on behind itself either way", m, nil, 0, state{api.OK, nil, 3})
	m = load(t, image(inBool+outInt, num(5), get(0), unless(16), num(2), mul, set(1), end))
	wantScan(t, "UNLESS with a number below", m, []int{1}, 0, state{api.OK, []int{10}, 7})
	wantScan(t, "UNLESS with a number below", m, []int{0}, 0, state{api.OK, []int{5}, 5})
}

func TestLoops(t *testing.T) {
	count := get(0) + num(1) + add + set(0)
	empty := num(0) + set(0)
	for _, n := range []int{1, 2, 3, 255, 256, 257, 30000} {
		m := load(t, image(outDint, empty, loop(n), count, next, end))
		wantScan(t, "a loop", m, nil, 0, state{api.OK, []int{n}, 2 + 1 + 5*n + 1})
		wantScan(t, "a loop again", m, nil, 0, state{api.OK, []int{n}, 2 + 1 + 5*n + 1})
	}
	m := load(t, image("", loop(65535), next, end))
	wantScan(t, "the most rounds", m, nil, 0, state{api.OK, nil, 65537})
	m = load(t, image(outDint, empty, loop(3), loop(4), count, next, count, next, loop(5), count, next, count, end))
	wantScan(t, "a loop in a loop, and one behind", m, nil, 0, state{api.OK, []int{21}, 2 + 1 + 3*(1+4*5+4+1) + 1 + 5*5 + 4 + 1})
	m = load(t, image(outDint, empty, loop(2), loop(3), next, loop(4), count, next, next, end))
	wantScan(t, "two loops in a loop", m, nil, 0, state{api.OK, []int{8}, 2 + 1 + 2*(1+3+1+4*5+1) + 1})
	m = load(t, image(outInt, num(1), loop(3), num(2), add, next, set(0), end))
	wantScan(t, "a loop with a number below", m, nil, 0, state{api.OK, []int{7}, 1 + 1 + 9 + 2})
	m = load(t, image(outDint, empty, times(api.MaxNest, loop(2)), count, times(api.MaxNest, next), end))
	wantScan(t, "as deep as may be", m, nil, 0, state{api.OK, []int{1024}, 2 + 1023 + 1024*4 + 2046 + 1})
	m = load(t, image("", loop(738), loop(269), next, next, end))
	wantScan(t, "MaxSteps", m, nil, 0, state{api.OK, nil, api.MaxSteps})
	m = load(t, image(outInt+varInt, loop(6), get(1), num(1), add, set(1), get(1), num(2), mod, unless(34), count, next, end))
	wantScan(t, "UNLESS in a round", m, nil, 0, state{api.OK, []int{3}, 1 + 3*(4+4+4+1) + 3*(4+4+1) + 1})
}

func TestTimer(t *testing.T) {
	s := image(inDint+inDint+varDint+outDint+outDint, get(0), get(1), timer(2), set(3), get(2), set(4), end)
	m := load(t, s)
	for _, c := range []struct{ a, p, delta, up, cell int }{
		{1, 100, 60, 0, 60}, {1, 100, 39, 0, 99}, {1, 100, 0, 0, 99}, {1, 100, 1, 1, 100}, {-7, 100, 1, 1, 101},
		{65536, 5000, api.MaxDelta, 1, 1000101}, {1, 2000000, 0, 0, 1000101}, {0, 100, 5, 0, 0}, {0, 0, 5, 0, 0}, {0, -5, 9, 0, 0},
		{1, 0, 0, 1, 0}, {1, -5, 0, 1, 0}, {1, 1, 0, 0, 0}, {1, most, api.MaxDelta, 0, api.MaxDelta}, {least, 3, 3, 1, 1000003},
	} {
		wantScan(t, "TIMER", m, []int{c.a, c.p}, c.delta, state{api.OK, []int{c.up, c.cell}, 7})
	}
}

func TestTimerIsFull(t *testing.T) {
	s := image(inDint+inDint+varDint+outDint+outDint, get(0), set(2), num(1), get(1), timer(2), set(3), get(2), set(4), end)
	m := load(t, s)
	for _, c := range []struct{ cell, p, delta, up, then int }{
		{most - 5, most, 4, 0, most - 1}, {most - 5, most, 5, 1, most}, {most - 5, most, 6, 1, most}, {most, most, 0, 1, most},
		{most, most, api.MaxDelta, 1, most}, {most, 0, 1, 1, most}, {most - api.MaxDelta, most, api.MaxDelta, 1, most},
		{least, 0, 1, 0, least + 1}, {least, least, 0, 1, least}, {-10, -3, 6, 0, -4}, {-10, -4, 6, 1, -4}, {-1, 0, api.MaxDelta, 1, api.MaxDelta - 1},
	} {
		wantScan(t, "TIMER", m, []int{c.cell, c.p}, c.delta, state{api.OK, []int{c.up, c.then}, 9})
	}
	m = load(t, image(varDint+outBool+outDint, loop(3000), num(1), num(0), timer(0), set(1), next, get(0), set(2), end))
	wantScan(t, "TIMER of many rounds", m, nil, 700, state{api.OK, []int{1, 2100000}, 1 + 3000*5 + 3})
	for range 10 {
		m.Scan(nil, 700000)
	}
	wantScan(t, "TIMER of many scans", m, nil, 1, state{api.OK, []int{1, most}, 1 + 3000*5 + 3})
}
