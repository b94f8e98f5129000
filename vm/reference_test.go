package vm_test

import (
	"testing"

	"sluice/api"
)

// A second, slower reading of the document's rules for small codes, held
// against Load: loops are unrolled, and each way is gone to its end.

type piece struct {
	op byte
	to int // of JUMP and UNLESS: a piece
}

const (
	pEnd    = 0
	pNum    = 1
	pSet    = 3
	pAdd    = 6
	pJump   = 17
	pUnless = 18
	pFor    = 19
	pNext   = 20
)

const rounds = 2

func (p piece) size() int {
	switch p.op {
	case pNum:
		return 5
	case pSet:
		return 2
	case pJump, pUnless, pFor:
		return 3
	}
	return 1
}

func write(pieces []piece) string {
	at := make([]int, len(pieces))
	for i := 1; i < len(pieces); i++ {
		at[i] = at[i-1] + pieces[i-1].size()
	}
	code := ""
	for _, p := range pieces {
		switch p.op {
		case pNum:
			code += num(1)
		case pSet:
			code += set(0)
		case pJump, pUnless:
			code += wide(p.op, at[p.to])
		case pFor:
			code += loop(rounds)
		default:
			code += string([]byte{p.op})
		}
	}
	return image(varInt, code)
}

// around answers of each piece the list of the FORs that it stands in, as a
// text that is the same for two pieces in the same FOR only.
func around(pieces []piece) ([]string, bool) {
	list := make([]string, len(pieces))
	open := ""
	for i, p := range pieces {
		list[i] = open
		switch {
		case p.op == pFor:
			open += string(rune('a' + i))
		case p.op == pNext && open == "":
			return nil, false
		case p.op == pNext:
			open = open[:len(open)-1]
		}
	}
	return list, open == ""
}

type explorer struct {
	pieces []piece
	depths []int // -1: not come to
	wrong  bool
}

// explore goes all ways from a piece on, and answers the longest one's steps.
// left has, for each open FOR, its place and the rounds that are left.
func (x *explorer) explore(i, depth int, left [][2]int) int {
	if x.wrong {
		return 0
	}
	if x.depths[i] >= 0 && x.depths[i] != depth {
		x.wrong = true
		return 0
	}
	x.depths[i] = depth
	p := x.pieces[i]
	switch p.op {
	case pEnd:
		x.wrong = x.wrong || depth != 0
		return 1
	case pNum:
		return 1 + x.explore(i+1, depth+1, left)
	case pSet, pUnless, pAdd:
		return x.exploreTaking(i, depth, left)
	case pJump:
		return 1 + x.explore(p.to, depth, left)
	case pFor:
		return 1 + x.explore(i+1, depth, append(left[:len(left):len(left)], [2]int{i, rounds}))
	}
	return x.exploreNext(i, depth, left)
}

func (x *explorer) exploreTaking(i, depth int, left [][2]int) int {
	p := x.pieces[i]
	if depth < 1 || p.op == pAdd && depth < 2 {
		x.wrong = true
		return 0
	}
	straight := x.explore(i+1, depth-1, left)
	if p.op == pUnless {
		straight = max(straight, x.explore(p.to, depth-1, left))
	}
	return 1 + straight
}

func (x *explorer) exploreNext(i, depth int, left [][2]int) int {
	last := left[len(left)-1]
	outer := left[: len(left)-1 : len(left)-1]
	if depth != x.depths[last[0]] {
		x.wrong = true
		return 0
	}
	if last[1] == 1 {
		return 1 + x.explore(i+1, depth, outer)
	}
	return 1 + x.explore(last[0]+1, depth, append(outer, [2]int{last[0], last[1] - 1}))
}

// reference answers the bound, or 0 if the pieces are not right.
func reference(pieces []piece) int {
	loops, ok := around(pieces)
	if !ok {
		return 0
	}
	for i, p := range pieces {
		if (p.op == pEnd) != (i == len(pieces)-1) {
			return 0
		}
		if (p.op == pJump || p.op == pUnless) && (p.to <= i || loops[p.to] != loops[i]) {
			return 0
		}
	}
	x := explorer{pieces: pieces, depths: make([]int, len(pieces))}
	for i := range x.depths {
		x.depths[i] = -1
	}
	bound := x.explore(0, 0, nil)
	for _, d := range x.depths {
		if d < 0 {
			return 0
		}
	}
	if x.wrong {
		return 0
	}
	return bound
}

func compare(t *testing.T, pieces []piece) bool {
	t.Helper()
	want := reference(pieces)
	n, e := ask(t, write(pieces))
	if want == 0 && e != api.ErrImage || want > 0 && (e != api.OK || n != want) {
		t.Fatalf("P3: %v: bound %d and error %d, want bound %d", pieces, n, e, want)
	}
	return want > 0
}

// choices are all pieces that may stand in a code of so many.
func choices(length int) []piece {
	list := []piece{{op: pNum}, {op: pSet}, {op: pAdd}, {op: pFor}, {op: pNext}, {op: pEnd}}
	for to := range length {
		list = append(list, piece{pJump, to}, piece{pUnless, to})
	}
	return list
}

func TestAllSmallCodes(t *testing.T) {
	for length := 1; length <= 5; length++ {
		pieces := make([]piece, length)
		pieces[length-1] = piece{op: pEnd}
		right := fillAll(t, pieces, 0)
		if right == 0 {
			t.Errorf("none of the codes of %d pieces is right", length)
		}
	}
}

func fillAll(t *testing.T, pieces []piece, i int) int {
	t.Helper()
	if i == len(pieces)-1 {
		if compare(t, pieces) {
			return 1
		}
		return 0
	}
	right := 0
	for _, p := range choices(len(pieces)) {
		pieces[i] = p
		right += fillAll(t, pieces, i+1)
	}
	return right
}

// Longer codes are drawn by a fixed rule, and so that many of them are right.
func TestLongerCodes(t *testing.T) {
	state := uint64(1)
	draw := func(n int) int {
		state = state*6364136223846793005 + 1442695040888963407
		return int(state>>33) % n
	}
	right := 0
	for range 300000 {
		if compare(t, drawCode(draw)) {
			right++
		}
	}
	if right < 1000 {
		t.Errorf("only %d codes are right", right)
	}
}

func drawCode(draw func(int) int) []piece {
	var pieces []piece
	for range 3 + draw(4) {
		switch draw(6) {
		case 0:
			pieces = append(pieces, piece{op: pNum}, piece{op: pSet})
		case 1:
			pieces = append(pieces, piece{op: pNum}, piece{op: pUnless})
		case 2:
			pieces = append(pieces, piece{op: pJump})
		case 3:
			pieces = append(pieces, piece{op: pFor})
		case 4:
			pieces = append(pieces, piece{op: pNext})
		case 5:
			pieces = append(pieces, piece{op: []byte{pNum, pSet, pAdd}[draw(3)]})
		}
	}
	pieces = append(pieces, piece{op: pEnd})
	for i := range pieces {
		pieces[i].to = min(i+1+draw(4), len(pieces)-1)
	}
	return pieces
}
