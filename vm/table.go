package vm

// The instructions, by their bytes.
const (
	opEnd byte = iota
	opNum
	opGet
	opSet
	opGetX
	opSetX
	opAdd
	opSub
	opMul
	opDiv
	opMod
	opEq
	opLt
	opNot
	opAnd
	opOr
	opShort
	opJump
	opUnless
	opFor
	opNext
	opTimer
	opCount
)

// operand is what belongs to an instruction.
type operand byte

const (
	noOperand operand = iota
	aNumber           // i32
	aCell             // a byte c
	someCells         // bytes c, n
	aPlace            // u16 t
	aCount            // u16 n
)

// row is what the table holds of an instruction.
type row struct {
	name    string
	operand operand
	pops    int
	pushes  int
}

// table is a function, not a variable: what an instruction does is to stand in
// its row as a function value, and no package-level table may hold those.
func table() [opCount]row {
	return [opCount]row{
		opEnd:    {"END", noOperand, 0, 0},
		opNum:    {"NUM", aNumber, 0, 1},
		opGet:    {"GET", aCell, 0, 1},
		opSet:    {"SET", aCell, 1, 0},
		opGetX:   {"GETX", someCells, 1, 1},
		opSetX:   {"SETX", someCells, 2, 0},
		opAdd:    {"ADD", noOperand, 2, 1},
		opSub:    {"SUB", noOperand, 2, 1},
		opMul:    {"MUL", noOperand, 2, 1},
		opDiv:    {"DIV", noOperand, 2, 1},
		opMod:    {"MOD", noOperand, 2, 1},
		opEq:     {"EQ", noOperand, 2, 1},
		opLt:     {"LT", noOperand, 2, 1},
		opNot:    {"NOT", noOperand, 1, 1},
		opAnd:    {"AND", noOperand, 2, 1},
		opOr:     {"OR", noOperand, 2, 1},
		opShort:  {"SHORT", noOperand, 1, 1},
		opJump:   {"JUMP", aPlace, 0, 0},
		opUnless: {"UNLESS", aPlace, 1, 0},
		opFor:    {"FOR", aCount, 0, 0},
		opNext:   {"NEXT", noOperand, 0, 0},
		opTimer:  {"TIMER", aCell, 2, 1},
	}
}
