package vm

import (
	"testing"

	"sluice/api"
	"sluice/layout"
)

func TestTable(t *testing.T) {
	type line struct {
		name         string
		operand      operand
		pops, pushes int
	}
	want := []line{
		{"END", noOperand, 0, 0}, {"NUM", aNumber, 0, 1}, {"GET", aCell, 0, 1}, {"SET", aCell, 1, 0},
		{"GETX", someCells, 1, 1}, {"SETX", someCells, 2, 0},
		{"ADD", noOperand, 2, 1}, {"SUB", noOperand, 2, 1}, {"MUL", noOperand, 2, 1},
		{"DIV", noOperand, 2, 1}, {"MOD", noOperand, 2, 1}, {"EQ", noOperand, 2, 1}, {"LT", noOperand, 2, 1},
		{"NOT", noOperand, 1, 1}, {"AND", noOperand, 2, 1}, {"OR", noOperand, 2, 1}, {"SHORT", noOperand, 1, 1},
		{"JUMP", aPlace, 0, 0}, {"UNLESS", aPlace, 1, 0}, {"FOR", aCount, 0, 0}, {"NEXT", noOperand, 0, 0},
		{"TIMER", aCell, 2, 1},
	}
	rows := table()
	if len(rows) != len(want) {
		t.Fatalf("the table has %d rows, want %d", len(rows), len(want))
	}
	for i, r := range rows {
		if got := (line{r.name, r.operand, r.pops, r.pushes}); got != want[i] {
			t.Errorf("row %d is %v, want %v", i, got, want[i])
		}
		if r.does == nil {
			t.Errorf("nothing does %s", r.name)
		}
	}
}

func TestOperandsAreRead(t *testing.T) {
	code := string([]byte{1, 0xff, 0xff, 0xff, 0xfe, 1, 0x12, 0x34, 0x56, 0x78, 2, 200, 4, 7, 9, 17, 1, 2, 19, 0xff, 0xff, 0})
	want := []step{
		{op: layout.Num, at: 0, arg: -2}, {op: layout.Num, at: 5, arg: 0x12345678}, {op: layout.Get, at: 10, arg: 200},
		{op: layout.GetX, at: 12, arg: 7, count: 9}, {op: layout.Jump, at: 15, arg: 258}, {op: layout.For, at: 18, arg: 65535}, {op: layout.End, at: 21},
	}
	steps, ok := readCode(code)
	if !ok || len(steps) != len(want) {
		t.Fatalf("readCode: %v, %t", steps, ok)
	}
	for i, s := range steps {
		if s != want[i] {
			t.Errorf("step %d is %v, want %v", i, s, want[i])
		}
	}
}

func TestCellsBeginAtZero(t *testing.T) {
	m, e := Load("SLUICE\x09\x00\x01\x02\x03\x04\x05\x06\x07\x08\x00\x01\x00")
	if e != api.OK || len(m.cells) != 9 {
		t.Fatalf("P3: Load: %v, %d", m, e)
	}
	for i, c := range m.cells {
		if want := (cell{role: byte(i / 3), kind: byte(i % 3)}); c != want {
			t.Errorf("P3: cell %d is %v, want %v", i, c, want)
		}
	}
}
