package vm

// The instructions, by their bytes.
const (
	opEnd byte = iota
	opNum
	opGet
	opSet
	opGetX
	opSetX
	opAdd
	opSub
	opMul
	opDiv
	opMod
	opEq
	opLt
	opNot
	opAnd
	opOr
	opShort
	opJump
	opUnless
	opFor
	opNext
	opTimer
	opCount
)

// operand is what belongs to an instruction.
type operand byte

const (
	noOperand operand = iota
	aNumber           // i32
	aCell             // a byte c
	someCells         // bytes c, n
	aPlace            // u16 t
	aCount            // u16 n
)

// row is what the table holds of an instruction.
type row struct {
	name    string
	operand operand
	pops    int
	pushes  int
	does    action
}

// table is a function, not a variable: no package-level table may hold
// function values.
func table() [opCount]row {
	return [opCount]row{
		opEnd:    {"END", noOperand, 0, 0, doEnd},
		opNum:    {"NUM", aNumber, 0, 1, doNum},
		opGet:    {"GET", aCell, 0, 1, doGet},
		opSet:    {"SET", aCell, 1, 0, doSet},
		opGetX:   {"GETX", someCells, 1, 1, doGetX},
		opSetX:   {"SETX", someCells, 2, 0, doSetX},
		opAdd:    {"ADD", noOperand, 2, 1, reckoned(func(a, b int32) int32 { return a + b })},
		opSub:    {"SUB", noOperand, 2, 1, reckoned(func(a, b int32) int32 { return a - b })},
		opMul:    {"MUL", noOperand, 2, 1, reckoned(func(a, b int32) int32 { return a * b })},
		opDiv:    {"DIV", noOperand, 2, 1, divided(func(a, b int32) int32 { return a / b })},
		opMod:    {"MOD", noOperand, 2, 1, divided(func(a, b int32) int32 { return a % b })},
		opEq:     {"EQ", noOperand, 2, 1, reckoned(func(a, b int32) int32 { return truth(a == b) })},
		opLt:     {"LT", noOperand, 2, 1, reckoned(func(a, b int32) int32 { return truth(a < b) })},
		opNot:    {"NOT", noOperand, 1, 1, reckoned(func(a, _ int32) int32 { return truth(a == 0) })},
		opAnd:    {"AND", noOperand, 2, 1, reckoned(func(a, b int32) int32 { return truth(a != 0 && b != 0) })},
		opOr:     {"OR", noOperand, 2, 1, reckoned(func(a, b int32) int32 { return truth(a != 0 || b != 0) })},
		opShort:  {"SHORT", noOperand, 1, 1, reckoned(func(a, _ int32) int32 { return laid(int(a), kindInt) })},
		opJump:   {"JUMP", aPlace, 0, 0, doJump},
		opUnless: {"UNLESS", aPlace, 1, 0, doUnless},
		opFor:    {"FOR", aCount, 0, 0, doFor},
		opNext:   {"NEXT", noOperand, 0, 0, doNext},
		opTimer:  {"TIMER", aCell, 2, 1, doTimer},
	}
}
