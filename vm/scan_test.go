package vm_test

import (
	"math"
	"slices"
	"sync"
	"testing"

	"sluice/api"
	"sluice/vm"
)

func TestExampleOneScans(t *testing.T) {
	m := load(t, "SLUICE"+string([]byte{2, 1, 4, 0, 5, 2, 0, 3, 1, 0}))
	wantScan(t, "example 1", m, []int{7}, 0, state{api.OK, []int{7}, 3})
	wantScan(t, "example 1", m, []int{40000}, 0, state{api.ErrInput, []int{7}, 3})
}

func TestAheadOfTheFirstScan(t *testing.T) {
	for _, c := range []struct {
		cells string
		want  []int
	}{
		{"", nil}, {inInt + varDint, nil}, {outBool, []int{0}}, {inInt + outInt + varInt + outDint, []int{0, 0}},
		{times(api.MaxCells, outDint), make([]int, api.MaxCells)},
	} {
		m := load(t, image(c.cells, end))
		if l := m.Outputs(); !slices.Equal(l, c.want) || m.Steps() != 0 {
			t.Errorf("P4: ahead of the first scan: %d and %d steps, want %d", l, m.Steps(), c.want)
		}
		wantScan(t, "a delta that is wrong ahead of the first scan", m, make([]int, countInputs(c.cells)), -1, state{api.ErrInput, c.want, 0})
	}
	m := load(t, image(outInt+inDint, num(5), set(0), num(1), get(1), div, set(0), end))
	wantScan(t, "the first scan is an error", m, []int{0}, 0, state{api.ErrZero, []int{0}, 5})
}

func countInputs(cells string) int {
	n := 0
	for _, c := range []byte(cells) {
		if c < 3 {
			n++
		}
	}
	return n
}

func TestAllCellsBeginAtZero(t *testing.T) {
	m := load(t, image(varBool+varInt+varDint+outDint+outDint+outDint+outBool,
		get(0), num(1), add, set(3), get(1), num(2), add, set(4), get(2), num(3), add, set(5), get(6), not, set(6), end))
	wantScan(t, "cells at first", m, nil, 0, state{api.OK, []int{1, 2, 3, 1}, 16})
}

func TestInputsAndOutputsInTheirOrder(t *testing.T) {
	m := load(t, image(outInt+inInt+varDint+inDint+outDint+inBool+outBool+inInt,
		get(1), set(0), get(3), set(4), get(5), set(6), get(7), set(2), end))
	wantScan(t, "an order", m, []int{3, -100000, 1, 9}, 0, state{api.OK, []int{3, -100000, 1}, 9})
	wantScan(t, "an order", m, []int{4, 100000, 0, 8}, 0, state{api.OK, []int{4, 100000, 0}, 9})
	m = load(t, image(inInt+inInt+outInt+outInt, get(0), set(3), get(1), set(2), end))
	wantScan(t, "an order", m, []int{1, 2}, 0, state{api.OK, []int{2, 1}, 5})
}

func TestCellsStayFromScanToScan(t *testing.T) {
	m := load(t, image(inDint+varDint+outDint+outInt, get(1), get(0), add, set(1), get(1), set(2), get(3), num(1), add, set(3), end))
	sum := 0
	for i := 1; i <= 20; i++ {
		in := (i*7919)%1000 - 500
		sum += in
		wantScan(t, "a sum", m, []int{in}, 0, state{api.OK, []int{sum, i}, 11})
	}
	m = load(t, image(inBool+outInt+outInt, get(0), unless(15), num(5), set(1), jump(22), num(6), set(2), end))
	wantScan(t, "an output that is not set", m, []int{1}, 0, state{api.OK, []int{5, 0}, 6})
	wantScan(t, "an output that is not set", m, []int{0}, 0, state{api.OK, []int{5, 6}, 5})
}

// counter counts its scans, beside an input of each kind, and keeps a timer.
func counter() string {
	return image(inInt+inBool+inDint+outInt+varDint+outDint, get(3), num(1), add, set(3), num(1), num(0), timer(4), set(5), get(4), set(5), end)
}

func TestWrongInputs(t *testing.T) {
	m := load(t, counter())
	good := []int{-7, 1, 100000}
	wantScan(t, "good", m, good, 10, state{api.OK, []int{1, 10}, 11})
	stays := state{api.ErrInput, []int{1, 10}, 11}
	for _, in := range [][]int{
		nil, {}, {1}, {1, 1}, {1, 1, 1, 1}, {1, 1, 1, 0}, make([]int, 1000),
		{32768, 0, 0}, {-32769, 0, 0}, {65536, 0, 0}, {math.MaxInt, 0, 0}, {math.MinInt, 0, 0},
		{0, 2, 0}, {0, -1, 0}, {0, 256, 0}, {0, math.MaxInt, 0}, {0, math.MinInt, 0},
	} {
		wantScan(t, "a wrong input", m, in, 10, stays)
	}
	for _, delta := range []int{-1, -2, api.MaxDelta + 1, math.MaxInt, math.MinInt, math.MinInt32, math.MaxInt32} {
		wantScan(t, "a wrong delta", m, good, delta, stays)
		wantScan(t, "a wrong delta and wrong inputs", m, nil, delta, stays)
	}
	wantScan(t, "good again", m, good, 5, state{api.OK, []int{2, 15}, 11})
}

// On an int of 64 bits there are numbers just outside DINT, and such whose
// lowest bits are a good number.
func TestInputsOutsideDint(t *testing.T) {
	if math.MaxInt == math.MaxInt32 {
		t.Skip("an int has 32 bits")
	}
	m := load(t, counter())
	for shift := 31; shift < 63; shift++ {
		for i := range 3 {
			for _, n := range []int{1 << shift, -1<<shift - 1, 1<<shift + 1} {
				in := make([]int, 3)
				in[i] = n
				wantScan(t, "an input outside DINT", m, in, 0, state{api.ErrInput, []int{0, 0}, 0})
			}
		}
		if shift >= 32 {
			wantScan(t, "a delta outside DINT", m, make([]int, 3), 1<<shift+1, state{api.ErrInput, []int{0, 0}, 0})
			wantScan(t, "a delta outside DINT", m, make([]int, 3), -1<<shift+1, state{api.ErrInput, []int{0, 0}, 0})
		}
	}
}

func TestInputsAtTheEdges(t *testing.T) {
	m := load(t, image(inInt+inBool+inDint+outInt+outBool+outDint, get(0), set(3), get(1), set(4), get(2), set(5), end))
	for _, in := range [][]int{{-32768, 0, least}, {32767, 1, most}, {0, 0, 0}, {-1, 1, -1}, {1, 1, 1}} {
		for _, delta := range []int{0, 1, api.MaxDelta} {
			wantScan(t, "an input at the edge", m, in, delta, state{api.OK, in, 7})
		}
	}
	m = load(t, image("", end))
	wantScan(t, "no inputs", m, nil, 0, state{api.OK, nil, 1})
	wantScan(t, "no inputs, a list", m, []int{}, 0, state{api.OK, nil, 1})
	wantScan(t, "an input too many", m, []int{0}, 0, state{api.ErrInput, nil, 1})
}

// wantForEver looks at a machine of one input of kind DINT that had an error.
func wantForEver(t *testing.T, m *vm.Machine, want state) {
	t.Helper()
	for _, in := range [][]int{{1}, {0}, nil, {1, 2}, {math.MaxInt}, {3}} {
		for _, delta := range []int{0, 7, -1, api.MaxDelta + 1} {
			wantScan(t, "behind an error", m, in, delta, want)
		}
	}
}

func TestErrorsAreForEver(t *testing.T) {
	count := get(3) + num(1) + add + set(3)
	for _, c := range []struct {
		name  string
		code  string
		steps int // up to the one that is an error with the input 0, this one as well
		e     api.Errno
	}{
		{"DIV", num(8) + get(0) + div + set(2), 3, api.ErrZero},
		{"MOD", num(8) + get(0) + mod + set(2), 3, api.ErrZero},
		{"GETX", num(1) + get(0) + sub + getx(1, 1) + set(2), 4, api.ErrIndex},
		{"SETX", num(1) + get(0) + sub + num(7) + setx(1, 1), 5, api.ErrIndex},
	} {
		m := load(t, image(inDint+varInt+varDint+outInt+outInt, count, num(77), set(4), c.code, get(3), set(4), end))
		wantScan(t, c.name, m, []int{1}, 0, state{api.OK, []int{1, 1}, m.Bound()})
		wantScan(t, c.name, m, []int{1}, 0, state{api.OK, []int{2, 2}, m.Bound()})
		failed := state{c.e, []int{2, 2}, 6 + c.steps}
		wantScan(t, c.name, m, []int{0}, 0, failed)
		wantForEver(t, m, failed)
	}
}

func TestErrorInALoop(t *testing.T) {
	count := get(1) + num(1) + add + set(1)
	m := load(t, image(inDint+outInt, num(0), set(1), loop(10), count, num(8), get(0), get(1), sub, div, unless(34), next, end))
	wantScan(t, "no error in a loop", m, []int{11}, 0, state{api.OK, []int{10}, 2 + 1 + 10*11 + 1})
	wantScan(t, "an error in the fourth round", m, []int{4}, 0, state{api.ErrZero, []int{10}, 2 + 1 + 3*11 + 9})
	wantForEver(t, m, state{api.ErrZero, []int{10}, 2 + 1 + 3*11 + 9})
}

func TestNoErrorWhereNothingIsDone(t *testing.T) {
	m := load(t, image(inBool+outInt, get(0), unless(21), num(1), num(0), div, set(1), jump(28), num(3), set(1), end))
	wantScan(t, "round a division by 0", m, []int{0}, 0, state{api.OK, []int{3}, 5})
	wantScan(t, "a division by 0", m, []int{1}, 0, state{api.ErrZero, []int{3}, 5})
}

func TestWrongInputAheadOfAnError(t *testing.T) {
	m := load(t, image(inDint+outInt, num(8), get(0), div, set(1), end))
	wantScan(t, "a wrong delta, and it would be an error", m, []int{0}, -1, state{api.ErrInput, []int{0}, 0})
	wantScan(t, "a wrong input is not for ever", m, []int{2}, 0, state{api.OK, []int{4}, 5})
	wantScan(t, "a wrong input", m, nil, 0, state{api.ErrInput, []int{4}, 5})
	wantScan(t, "an error", m, []int{0}, 0, state{api.ErrZero, []int{4}, 3})
}

func TestTwoErrors(t *testing.T) {
	m := load(t, image(inDint+outInt, get(0), getx(1, 1), get(0), div, set(1), end))
	wantScan(t, "the error that came first", m, []int{0}, 0, state{api.ErrZero, []int{0}, 4})
	wantForEver(t, m, state{api.ErrZero, []int{0}, 4})
	m = load(t, image(inDint+outInt, get(0), getx(1, 1), num(0), div, set(1), end))
	wantScan(t, "the error that came first", m, []int{1}, 0, state{api.ErrIndex, []int{0}, 2})
	wantForEver(t, m, state{api.ErrIndex, []int{0}, 2})
}

func TestStepsAreOfTheLastScan(t *testing.T) {
	m := load(t, image(inBool, get(0), unless(15), loop(100), jump(11), next, jump(15), end))
	wantScan(t, "a short scan", m, []int{0}, 0, state{api.OK, nil, 3})
	wantScan(t, "a long scan", m, []int{1}, 0, state{api.OK, nil, m.Bound()})
	wantScan(t, "a scan that is not run", m, []int{2}, 0, state{api.ErrInput, nil, m.Bound()})
	wantScan(t, "a short scan again", m, []int{0}, 0, state{api.OK, nil, 3})
}

// spoil writes all over a list, spare room too.
func spoil(l []int) {
	l = l[:cap(l)]
	for i := range l {
		l[i] = -99
	}
}

func TestListsAreTheirOwn(t *testing.T) {
	m := load(t, image(inInt+inInt+outInt+outInt+outInt, get(0), set(2), get(1), set(3), end))
	room := []int{1, 2, 3, 4}
	wantScan(t, "a list with room behind it", m, room[:2], 0, state{api.OK, []int{1, 2, 0}, 5})
	m.Scan(room[:1], 0)
	m.Scan(room[:0], -1)
	if !slices.Equal(room, []int{1, 2, 3, 4}) {
		t.Errorf("P2: what was handed in is %d", room)
	}
	spoil(room)
	first, second := m.Outputs(), m.Outputs()
	if !slices.Equal(first, []int{1, 2, 0}) || m.Steps() != 5 {
		t.Errorf("P2: outputs %d, %d steps", first, m.Steps())
	}
	spoil(first)
	if !slices.Equal(second, []int{1, 2, 0}) || !slices.Equal(m.Outputs(), []int{1, 2, 0}) {
		t.Errorf("P2: outputs %d, %d", second, m.Outputs())
	}
	wantScan(t, "lists that were written", m, []int{8, 9}, 0, state{api.OK, []int{8, 9, 0}, 5})
	if !slices.Equal(second, []int{1, 2, 0}) {
		t.Errorf("P2: a scan wrote into a list that came out: %d", second)
	}
	m.Scan(m.Outputs()[:2], 0)
	if !slices.Equal(m.Outputs(), []int{8, 9, 0}) {
		t.Errorf("P2: outputs as inputs: %d", m.Outputs())
	}
}

// The same for the lists of a machine that had an error.
func TestListsBehindAnError(t *testing.T) {
	m := load(t, image(inInt+outInt, num(60), get(0), div, set(1), end))
	room := []int{3, 0, 5}
	m.Scan(room[:1], 0)
	kept := m.Outputs()
	wantScan(t, "an error", m, room[1:2], 0, state{api.ErrZero, []int{20}, 3})
	spoil(m.Outputs())
	spoil(kept)
	wantForEver(t, m, state{api.ErrZero, []int{20}, 3})
	if !slices.Equal(room, []int{3, 0, 5}) {
		t.Errorf("P2: what was handed in is %d", room)
	}
}

func TestTwoMachinesOfOneImage(t *testing.T) {
	a, b := load(t, counter()), load(t, counter())
	in := []int{0, 0, 0}
	a.Scan(in, 3)
	a.Scan(in, 3)
	wantScan(t, "the other machine", b, in, 5, state{api.OK, []int{1, 5}, 11})
	wantScan(t, "the one machine", a, in, 3, state{api.OK, []int{3, 9}, 11})
	m, n := load(t, image(inDint+outInt, num(8), get(0), div, set(1), end)), load(t, image(inDint+outInt, num(8), get(0), div, set(1), end))
	m.Scan([]int{0}, 0)
	wantScan(t, "an error of another machine", n, []int{2}, 0, state{api.OK, []int{4}, 5})
}

func TestMachinesAtTheSameTime(t *testing.T) {
	var all sync.WaitGroup
	for g := range 8 {
		all.Go(func() {
			m, _ := vm.Load(counter())
			for i := 1; i <= 200; i++ {
				e := m.Scan([]int{g, 0, 0}, g)
				if want := []int{i, i * g}; e != api.OK || !slices.Equal(m.Outputs(), want) {
					t.Errorf("P2: error %d, outputs %d, want %d", e, m.Outputs(), want)
				}
			}
		})
	}
	all.Wait()
}
