package vm

import "sluice/layout"

// cell is one of the machine's cells.
type cell struct {
	role  byte
	kind  byte
	value int32
}

func (c *cell) lay(n int) {
	c.value = laid(n, c.kind)
}

// holds tells whether a number is one of the cell's kind: those, and no
// others, stay what they are when they are laid into it.
func (c cell) holds(n int) bool {
	return int(laid(n, c.kind)) == n
}

// laid answers what a number is once it is laid into a cell of a kind.
func laid(n int, kind byte) int32 {
	switch kind {
	case layout.Bool:
		return truth(n != 0)
	case layout.Int:
		return int32(int16(n))
	}
	return int32(n)
}

func truth(b bool) int32 {
	if b {
		return 1
	}
	return 0
}
