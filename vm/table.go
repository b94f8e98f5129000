package vm

import "sluice/layout"

// operand is what belongs to an instruction.
type operand byte

const (
	noOperand operand = iota
	aNumber           // i32
	aCell             // a byte c
	someCells         // bytes c, n
	aPlace            // u16 t
	aCount            // u16 n
)

// row is what the table holds of an instruction.
type row struct {
	name    string
	operand operand
	pops    int
	pushes  int
	does    action
}

// table is a function, not a variable: no package-level table may hold
// function values.
func table() [layout.Instructions]row {
	return [layout.Instructions]row{
		layout.End:    {"END", noOperand, 0, 0, doEnd},
		layout.Num:    {"NUM", aNumber, 0, 1, doNum},
		layout.Get:    {"GET", aCell, 0, 1, doGet},
		layout.Set:    {"SET", aCell, 1, 0, doSet},
		layout.GetX:   {"GETX", someCells, 1, 1, doGetX},
		layout.SetX:   {"SETX", someCells, 2, 0, doSetX},
		layout.Add:    {"ADD", noOperand, 2, 1, reckoned(func(a, b int32) int32 { return a + b })},
		layout.Sub:    {"SUB", noOperand, 2, 1, reckoned(func(a, b int32) int32 { return a - b })},
		layout.Mul:    {"MUL", noOperand, 2, 1, reckoned(func(a, b int32) int32 { return a * b })},
		layout.Div:    {"DIV", noOperand, 2, 1, divided(func(a, b int32) int32 { return a / b })},
		layout.Mod:    {"MOD", noOperand, 2, 1, divided(func(a, b int32) int32 { return a % b })},
		layout.Eq:     {"EQ", noOperand, 2, 1, reckoned(func(a, b int32) int32 { return truth(a == b) })},
		layout.Lt:     {"LT", noOperand, 2, 1, reckoned(func(a, b int32) int32 { return truth(a < b) })},
		layout.Not:    {"NOT", noOperand, 1, 1, reckoned(func(a, _ int32) int32 { return truth(a == 0) })},
		layout.And:    {"AND", noOperand, 2, 1, reckoned(func(a, b int32) int32 { return truth(a != 0 && b != 0) })},
		layout.Or:     {"OR", noOperand, 2, 1, reckoned(func(a, b int32) int32 { return truth(a != 0 || b != 0) })},
		layout.Short:  {"SHORT", noOperand, 1, 1, reckoned(func(a, _ int32) int32 { return laid(int(a), layout.Int) })},
		layout.Jump:   {"JUMP", aPlace, 0, 0, doJump},
		layout.Unless: {"UNLESS", aPlace, 1, 0, doUnless},
		layout.For:    {"FOR", aCount, 0, 0, doFor},
		layout.Next:   {"NEXT", noOperand, 0, 0, doNext},
		layout.Timer:  {"TIMER", aCell, 2, 1, doTimer},
	}
}
