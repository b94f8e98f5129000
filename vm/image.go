package vm

import (
	"strings"

	"sluice/api"
	"sluice/layout"
)

// step is one instruction of the code.
type step struct {
	op    byte
	at    int // the byte of the code where it begins
	arg   int // its i32, c, t or FOR's n
	count int // n of GETX and SETX
	loop  int // the step of the FOR that it stands in, or noLoop
	to    int // the step where JUMP and UNLESS go on
}

// program is an image, read.
type program struct {
	cells []cell
	steps []step
}

func readImage(image string) (program, bool) {
	rest, found := strings.CutPrefix(image, layout.Mark)
	if !found || rest == "" {
		return program{}, false
	}
	count := int(rest[0])
	rest = rest[1:]
	if count > api.MaxCells || len(rest) < count+2 {
		return program{}, false
	}
	cells, ok := readCells(rest[:count])
	if !ok {
		return program{}, false
	}
	size := readU16(rest[count:])
	code := rest[count+2:]
	if size > api.MaxCode || size != len(code) {
		return program{}, false
	}
	steps, ok := readCode(code)
	return program{cells, steps}, ok
}

func readCells(sorts string) ([]cell, bool) {
	cells := make([]cell, len(sorts))
	for i := range cells {
		sort := sorts[i]
		if sort >= layout.Roles*layout.Kinds {
			return nil, false
		}
		cells[i] = cell{role: sort / layout.Kinds, kind: sort % layout.Kinds}
	}
	return cells, true
}

func readCode(code string) ([]step, bool) {
	rows := table()
	var steps []step
	for at := 0; at < len(code); {
		op := code[at]
		if op >= layout.Instructions {
			return nil, false
		}
		begin := at + 1
		end := begin + operandSize(rows[op].operand)
		if end > len(code) {
			return nil, false
		}
		s := readOperand(rows[op].operand, code[begin:end])
		s.op, s.at = op, at
		steps = append(steps, s)
		at = end
	}
	return steps, true
}

func operandSize(o operand) int {
	switch o {
	case aNumber:
		return 4
	case aCell:
		return 1
	case someCells, aPlace, aCount:
		return 2
	}
	return 0
}

func readOperand(o operand, bytes string) step {
	switch o {
	case aNumber:
		return step{arg: readI32(bytes)}
	case aCell:
		return step{arg: int(bytes[0])}
	case someCells:
		return step{arg: int(bytes[0]), count: int(bytes[1])}
	case aPlace, aCount:
		return step{arg: readU16(bytes)}
	}
	return step{}
}

func readU16(bytes string) int {
	return int(bytes[0])<<8 | int(bytes[1])
}

func readI32(bytes string) int {
	n := uint32(bytes[0])<<24 | uint32(bytes[1])<<16 | uint32(bytes[2])<<8 | uint32(bytes[3])
	return int(int32(n))
}
