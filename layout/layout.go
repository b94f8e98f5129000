// Package layout: the bytes of which an image is made. They stand here once,
// for the compiler that writes images and the machine that reads them.
package layout

// Mark is what an image begins with.
const Mark = "SLUICE"

// The roles of cells.
const (
	Input byte = iota
	Output
	Variable
	Roles
)

// The kinds of cells. A cell's byte is Kinds times its role and its kind.
const (
	Bool byte = iota
	Int
	Dint
	Kinds
)

// The instructions.
const (
	End byte = iota
	Num
	Get
	Set
	GetX
	SetX
	Add
	Sub
	Mul
	Div
	Mod
	Eq
	Lt
	Not
	And
	Or
	Short
	Jump
	Unless
	For
	Next
	Timer
	Instructions
)
