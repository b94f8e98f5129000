package vm_test

import (
	"strings"
	"testing"

	"sluice/api"
)

type answer struct {
	name string
	s    string
	want int
}

func checkBounds(t *testing.T, list []answer) {
	t.Helper()
	for _, c := range list {
		wantBound(t, c.name, c.s, c.want)
	}
}

func checkWrong(t *testing.T, list []answer) {
	t.Helper()
	for _, c := range list {
		wantError(t, c.name, c.s, api.ErrImage)
	}
}

func TestExampleOne(t *testing.T) {
	s := "SLUICE" + string([]byte{2, 1, 4, 0, 5, 2, 0, 3, 1, 0})
	wantBound(t, "example 1", s, 3)
	if s != image(inInt+outInt, get(0), set(1), end) {
		t.Errorf("example 1 is %q", s)
	}
}

func TestEachInstructionIsLetIn(t *testing.T) {
	one := num(1)
	two := one + num(2)
	checkBounds(t, []answer{
		{"END", image("", end), 1},
		{"NUM, SET of a variable", image(varInt, one, set(0), end), 3},
		{"NUM, the least", image(varDint, num(-2147483648), set(0), end), 3},
		{"GET of an input, SET of an output", image(inBool+outBool, get(0), set(1), end), 3},
		{"GET of an output", image(outDint, get(0), set(0), end), 3},
		{"GETX of one cell", image(varBool, one, getx(0, 1), set(0), end), 4},
		{"GETX of inputs", image(inInt+inInt+varInt, one, getx(0, 2), set(2), end), 4},
		{"SETX of outputs", image(inInt+outInt+outInt, two, setx(1, 2), end), 4},
		{"SETX of variables", image(varInt+varInt, two, setx(0, 2), end), 4},
		{"NOT", image(varInt, one, not, set(0), end), 4},
		{"SHORT", image(varInt, one, short, set(0), end), 4},
		{"JUMP", image("", jump(3), end), 2},
		{"UNLESS", image("", one, unless(8), end), 3},
		{"FOR and NEXT", image("", loop(1), next, end), 3},
		{"TIMER", image(inDint+varDint+varBool, two, timer(1), set(2), end), 5},
	})
	for _, op := range []string{add, sub, mul, div, mod, eq, lt, and, or} {
		wantBound(t, "an instruction of two numbers", image(varInt, two, op, set(0), end), 5)
		wantError(t, "an instruction of two numbers, of one", image(varInt, one, op, set(0), end), api.ErrImage)
		wantError(t, "an instruction of two numbers, of three", image(varInt, one, two, op, set(0), end), api.ErrImage)
	}
}

func TestBoundOfBranches(t *testing.T) {
	put := num(1) + set(0)
	checkBounds(t, []answer{
		{"the way straight on is longer", image(varInt, num(1), unless(15), put, end), 5},
		{"the way that goes on at t is longer", image(varInt, num(1), unless(11), jump(25), put, put, end), 7},
		{"both ways, the first one longer", image(varInt, num(1), unless(25), put, put, jump(32), put, end), 8},
		{"both ways, the second one longer", image(varInt, num(1), unless(18), put, jump(39), put, put, put, end), 9},
		{"one choice in another", image(varInt, num(1), unless(37), num(1), unless(30), put, put, put, end), 2 + 2 + 4 + 2 + 1},
		{"the two ways meet ahead of the end", image(varInt, num(1), unless(15), put, put, end), 2 + 2 + 2 + 1},
	})
}

// Later steps are heard of ahead of earlier ones here: only if they wait for
// those is the longest way found.
func TestManyStepsWait(t *testing.T) {
	n := 700
	var code strings.Builder
	for k := range n {
		code.WriteString(num(1) + unless(8*n+3*(n-1-k)))
	}
	for k := range n {
		code.WriteString(jump(8*n + 3*(k+1)))
	}
	wantBound(t, "many ways at a time", image("", code.String(), end), 2*n+n+1)
}

func TestBoundOfLoops(t *testing.T) {
	put := num(1) + set(0)
	checkBounds(t, []answer{
		{"a round of two and NEXT", image(varInt, loop(3), put, next, end), 1 + 3*3 + 1},
		{"two loops, one behind the other", image(varInt, loop(3), put, next, loop(4), next, put, end), 1 + 9 + 1 + 4 + 2 + 1},
		{"a loop in a loop", image(varInt, put, loop(5), put, loop(7), put, next, put, next, put, end), 2 + 1 + 5*(2+1+7*3+2+1) + 2 + 1},
		{"a JUMP to NEXT", image("", loop(5), jump(6), next, end), 1 + 5*2 + 1},
		{"an UNLESS to NEXT", image(varInt, loop(2), num(0), unless(18), put, next, end), 1 + 2*5 + 1},
		{"an UNLESS to a FOR", image("", num(1), unless(11), jump(11), loop(4), next, end), 3 + 1 + 4 + 1},
		{"an UNLESS over a loop", image("", num(1), unless(12), loop(5), next, end), 2 + 1 + 5 + 1},
		{"an UNLESS over a loop in a loop", image("", loop(3), num(1), unless(15), loop(5), next, next, end), 1 + 3*(2+1+5+1) + 1},
		{"a loop that is shorter than the way round it", image(varInt, num(1), unless(15), loop(2), next, jump(36), put, put, put, end), 2 + 6 + 1},
		{"a stack that is not empty", image(varInt, num(1), loop(3), num(2), add, next, set(0), end), 1 + 1 + 9 + 2},
		{"a stack that is lower within", image(varInt, num(1), loop(3), set(0), num(2), next, set(0), end), 1 + 1 + 9 + 2},
		{"the most rounds", image("", loop(65535), next, end), 65537},
	})
}

func TestLimits(t *testing.T) {
	put := num(1) + set(0)
	fifths := loop(39999) + jump(6) + jump(9) + jump(12) + jump(15) + next
	checkBounds(t, []answer{
		{"no cells", image("", end), 1},
		{"MaxCells", image(strings.Repeat(varInt, api.MaxCells), get(99), set(0), end), 3},
		{"MaxCells, all by an index", image(strings.Repeat(varInt, api.MaxCells), num(1), getx(0, 100), set(0), end), 4},
		{"MaxCode", image(varInt, times(1141, put), times(3, get(0), set(0)), end), 2289},
		{"MaxStack", image(varInt, times(api.MaxStack, num(1)), times(api.MaxStack, set(0)), end), 65},
		{"MaxStack, by an instruction that pops one and pushes one", image(varInt, times(api.MaxStack, num(1)), not, times(api.MaxStack, set(0)), end), 66},
		{"MaxNest", image("", times(api.MaxNest, loop(1)), times(api.MaxNest, next), end), 21},
		{"MaxNest twice", image("", times(2, times(api.MaxNest, loop(1)), times(api.MaxNest, next)), end), 41},
		{"MaxSteps", image("", loop(738), loop(269), next, next, end), api.MaxSteps},
		{"MaxSteps, by a loop and what is behind it", image(varInt, fifths, get(0), set(0), jump(23), end), 1 + 39999*5 + 3 + 1},
	})
	checkWrong(t, []answer{
		{"above MaxCells", image(strings.Repeat(varInt, api.MaxCells+1), end), 0},
		{"255 cells", image(strings.Repeat(varInt, 255), end), 0},
		{"above MaxCode", image(varInt, times(1142, put), jump(7997), jump(8000), end), 0},
		{"65535 bytes of code", image("", times(65535, end)), 0},
		{"above MaxStack", image(varInt, times(api.MaxStack+1, num(1)), times(api.MaxStack+1, set(0)), end), 0},
		{"above MaxStack, by GET", image(varInt, times(api.MaxStack, num(1)), get(0), times(api.MaxStack+1, set(0)), end), 0},
		{"above MaxNest", image("", times(api.MaxNest+1, loop(1)), times(api.MaxNest+1, next), end), 0},
	})
}

func TestTooLong(t *testing.T) {
	fifths := loop(39999) + jump(6) + jump(9) + jump(12) + jump(15) + next
	for _, c := range []answer{
		{"just above MaxSteps", image("", jump(3), loop(738), loop(269), next, next, end), 0},
		{"just above MaxSteps, by what is behind", image("", loop(738), loop(269), next, next, jump(11), end), 0},
		{"just above MaxSteps, by another step", image(varInt, fifths, get(0), set(0), get(0), set(0), end), 0},
		{"far above", image("", loop(65535), loop(65535), next, next, end), 0},
		{"above what an int holds", image("", times(10, loop(65535)), times(10, next), end), 0},
		{"a product that ends in zeros", image("", times(10, loop(32768)), times(10, next), end), 0},
		{"many loops, each of them short", image("", times(100, loop(2500), next), end), 0},
		{"only on one of two ways", image("", num(1), unless(16), loop(65535), loop(4), next, next, end), 0},
		{"in a round", image("", loop(65535), jump(6), jump(9), jump(12), next, end), 0},
	} {
		wantError(t, c.name, c.s, api.ErrLong)
	}
}

func TestErrImageAheadOfErrLong(t *testing.T) {
	long := loop(65535) + loop(65535) + next + next
	wantError(t, "long alone", image(varInt, long, end), api.ErrLong)
	checkWrong(t, []answer{
		{"long, a stack that is not empty", image(varInt, long, num(1), end), 0},
		{"long, a stack that is too low", image(varInt, long, set(0), end), 0},
		{"long, a stack that is too high", image(varInt, long, times(33, num(1)), times(33, set(0)), end), 0},
		{"long, one that can't be come to", image(varInt, long, jump(18), num(1), set(0), end), 0},
		{"long, a cell that there is not", image(varInt, long, get(1), set(0), end), 0},
		{"long, no END", image(varInt, long), 0},
		{"long, another END", image(varInt, long, end, end), 0},
		{"long, a FOR left over", image(varInt, long, loop(2), end), 0},
		{"long, a JUMP back", image(varInt, long, jump(8), end), 0},
		{"long, a byte too many", image(varInt, long, end) + end, 0},
		{"long, NEXT with another depth", image(varInt, long, loop(2), num(1), next, end), 0},
		{"long, two depths", image(varInt, long, num(1), num(1), unless(20), num(1), set(0), set(0), end), 0},
	})
}
