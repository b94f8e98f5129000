package vm_test

import (
	"testing"

	"sluice/api"
)

func TestNoImage(t *testing.T) {
	good := image(inInt+outInt, get(0), set(1), end)
	for i := range good {
		wantError(t, "cut short", good[:i], api.ErrImage)
	}
	for i := range 6 {
		wantError(t, "another mark", good[:i]+"x"+good[i+1:], api.ErrImage)
	}
	for i := range 256 {
		wantError(t, "a byte too many", good+string([]byte{byte(i)}), api.ErrImage)
	}
	checkWrong(t, []answer{
		{"nothing", "", 0},
		{"zeros", times(100, end), 0},
		{"twice", good + good, 0},
		{"far too long", good + times(1000000, end), 0},
		{"a cell fewer than it says", "SLUICE\x02" + outInt + "\x00\x01" + end, 0},
		{"more code than there is", "SLUICE\x00\x00\x02" + end, 0},
		{"less code than there is", "SLUICE\x00\x00\x01" + jump(3) + end, 0},
		{"the lower byte first", "SLUICE\x00\x01\x00" + end, 0},
		{"no code", image(varInt), 0},
	})
	for i := 9; i < 256; i++ {
		wantError(t, "a cell of no sort", image(string([]byte{byte(i)}), end), api.ErrImage)
	}
	for i := range 9 {
		wantBound(t, "a cell of each sort", image(string([]byte{byte(i)}), end), 1)
	}
}

func TestNoInstruction(t *testing.T) {
	for i := 22; i < 256; i++ {
		wantError(t, "a byte that is no instruction", image("", string([]byte{byte(i)}), end), api.ErrImage)
	}
	for _, whole := range []string{num(0), get(0), set(0), getx(0, 1), setx(0, 1), jump(3), unless(8), loop(1), timer(0)} {
		for i := 1; i < len(whole); i++ {
			wantError(t, "what belongs to it is cut short", image(varDint, whole[:i]), api.ErrImage)
		}
	}
}

func TestWrongCells(t *testing.T) {
	one := num(1)
	two := one + num(2)
	checkWrong(t, []answer{
		{"GET of a cell that there is not", image(varInt, get(1), set(0), end), 0},
		{"GET where there is no cell", image("", get(0), unless(5), end), 0},
		{"SET of a cell that there is not", image(varInt, one, set(1), end), 0},
		{"SET of cell 255", image(varInt, one, set(255), end), 0},
		{"SET of an input", image(inInt+varInt, one, set(0), end), 0},
		{"GETX of a cell that there is not", image(varInt, one, getx(1, 1), set(0), end), 0},
		{"GETX of more cells than there are", image(varInt+varInt, one, getx(0, 3), set(0), end), 0},
		{"GETX of more cells behind the first", image(varInt+varInt, one, getx(1, 2), set(0), end), 0},
		{"GETX of cells 255 and on", image(varInt, one, getx(255, 255), set(0), end), 0},
		{"GETX of no cells", image(varInt, one, getx(0, 0), set(0), end), 0},
		{"GETX of no cells behind all", image(varInt, one, getx(1, 0), set(0), end), 0},
		{"GETX of two kinds", image(varInt+varDint, one, getx(0, 2), set(0), end), 0},
		{"GETX of two roles", image(outInt+varInt, one, getx(0, 2), set(0), end), 0},
		{"GETX of another kind at the end", image(varInt+varInt+varBool, one, getx(0, 3), set(0), end), 0},
		{"GETX of another kind between", image(varInt+varBool+varInt, one, getx(0, 3), set(0), end), 0},
		{"SETX of a cell that there is not", image(varInt, two, setx(1, 1), end), 0},
		{"SETX of more cells than there are", image(varInt+varInt, two, setx(1, 2), end), 0},
		{"SETX of no cells", image(varInt, two, setx(0, 0), end), 0},
		{"SETX of two kinds", image(varInt+varDint, two, setx(0, 2), end), 0},
		{"SETX of two roles", image(outInt+varInt, two, setx(0, 2), end), 0},
		{"SETX of inputs", image(inInt+inInt, two, setx(0, 2), end), 0},
		{"SETX of an input", image(inInt, two, setx(0, 1), end), 0},
		{"TIMER of a cell that there is not", image(varDint, two, timer(1), set(0), end), 0},
	})
	for i := range 9 {
		s := image(string([]byte{byte(i)})+varInt, two, timer(0), set(1), end)
		if i == 8 {
			wantBound(t, "TIMER of a variable of kind DINT", s, 5)
			continue
		}
		wantError(t, "TIMER of another cell", s, api.ErrImage)
	}
}

func TestWrongEndsAndLoops(t *testing.T) {
	checkWrong(t, []answer{
		{"no END", image("", jump(3), jump(6)), 0},
		{"END is not the last one", image(varInt, end, num(1), set(0)), 0},
		{"END twice", image("", end, end), 0},
		{"END twice, one on each way", image("", num(1), unless(9), end, end), 0},
		{"END in a FOR", image("", loop(1), end, next), 0},
		{"END in a FOR and behind it", image("", loop(1), end, next, end), 0},
		{"a FOR of no rounds", image("", loop(0), next, end), 0},
		{"a FOR left over", image("", loop(1), end), 0},
		{"a FOR left over around another", image("", loop(1), loop(1), next, end), 0},
		{"a NEXT left over", image("", next, end), 0},
		{"a NEXT left over behind another", image("", loop(1), next, next, end), 0},
		{"a NEXT ahead of its FOR", image("", next, loop(1), end), 0},
	})
}

func TestWrongTargets(t *testing.T) {
	one := num(1)
	put := one + set(0)
	checkWrong(t, []answer{
		{"a JUMP to itself", image("", jump(0), end), 0},
		{"a JUMP back", image("", jump(3), jump(0), end), 0},
		{"a JUMP into itself", image("", jump(2), end), 0},
		{"a JUMP into an instruction", image(varInt, one, unless(11), jump(13), put, end), 0},
		{"a JUMP to behind all", image("", jump(4), end), 0},
		{"a JUMP far away", image("", jump(65535), end), 0},
		{"an UNLESS to itself", image("", one, unless(5), end), 0},
		{"an UNLESS back", image("", one, unless(0), end), 0},
		{"an UNLESS to behind all", image("", one, unless(9), end), 0},
		{"into a FOR", image("", one, unless(11), loop(5), next, end), 0},
		{"into a FOR, behind another one", image("", loop(2), next, one, unless(15), loop(5), next, end), 0},
		{"out of a FOR to END", image("", loop(5), one, unless(12), next, end), 0},
		{"out of the inner FOR to the outer NEXT", image("", loop(5), loop(5), one, unless(15), next, next, end), 0},
		{"from the outer FOR into the inner", image("", loop(5), one, unless(14), loop(5), next, next, end), 0},
		{"from one FOR into another", image("", loop(5), one, unless(15), next, loop(5), next, end), 0},
	})
	checkBounds(t, []answer{
		{"to NEXT of the same FOR", image("", loop(5), one, unless(11), next, end), 1 + 5*3 + 1},
		{"to a FOR in the same FOR", image("", loop(5), one, unless(11), loop(2), next, next, end), 1 + 5*(2+1+2+1) + 1},
	})
}

func TestWrongStack(t *testing.T) {
	one := num(1)
	put := one + set(0)
	checkWrong(t, []answer{
		{"SET of nothing", image(varInt, set(0), end), 0},
		{"GETX of nothing", image(varInt, getx(0, 1), set(0), end), 0},
		{"SETX of one number", image(varInt, one, setx(0, 1), end), 0},
		{"NOT of nothing", image(varInt, not, set(0), end), 0},
		{"SHORT of nothing", image(varInt, short, set(0), end), 0},
		{"UNLESS of nothing", image("", unless(3), end), 0},
		{"TIMER of one number", image(varDint, one, timer(0), set(0), end), 0},
		{"a number left over", image("", one, end), 0},
		{"two depths ahead of one, the lower by t", image(varInt, one, unless(13), one, one, set(0), end), 0},
		{"two depths, the higher by t", image(varInt, one, one, unless(15), set(0), set(0), end), 0},
		{"two depths ahead of END", image(varInt, one, unless(13), one, end), 0},
		{"NEXT with a number more than FOR", image("", loop(1), one, next, end), 0},
		{"NEXT with a number fewer than FOR", image(varInt, one, loop(1), set(0), next, end), 0},
		{"NEXT with a number more, popped behind it", image(varInt, loop(1), one, next, set(0), end), 0},
		{"below the stack of the first round", image(varInt, loop(2), set(0), one, next, end), 0},
	})
	checkWrong(t, []answer{
		{"what is behind a JUMP", image(varInt, jump(10), put, end), 0},
		{"a loop behind a JUMP", image("", jump(7), loop(2), next, end), 0},
		{"a JUMP behind a JUMP", image("", jump(6), jump(6), end), 0},
		{"in a round", image(varInt, loop(2), jump(13), put, next, end), 0},
		{"come to only from what can't be come to", image("", jump(9), jump(6), jump(9), end), 0},
	})
}
