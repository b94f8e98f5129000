// Package vm: the machine: see DOC.md, P3 and P4.
package vm

import (
	"slices"

	"sluice/api"
	"sluice/layout"
)

// Machine runs an image.
type Machine struct {
	cells  []cell
	steps  []step
	bound  int
	done   int       // how many steps the last scan did that was run
	failed api.Errno // the error that a scan ended with
}

// Load makes a machine of an image (P3).
func Load(image string) (*Machine, api.Errno) {
	p, ok := readImage(image)
	if !ok || !p.settle() {
		return nil, api.ErrImage
	}
	bound, ok := findBound(p.steps)
	if !ok {
		return nil, api.ErrImage
	}
	if bound > api.MaxSteps {
		return nil, api.ErrLong
	}
	return &Machine{cells: p.cells, steps: p.steps, bound: bound}, api.OK
}

// Bound tells how many steps a scan has at most (P3).
func (m *Machine) Bound() int { return m.bound }

// Scan runs the image once (P4).
func (m *Machine) Scan(inputs []int, delta int) api.Errno {
	if m.failed != api.OK {
		return m.failed
	}
	if !m.takes(inputs) || delta < 0 || delta > api.MaxDelta {
		return api.ErrInput
	}
	return m.runOnce(inputs, delta)
}

func (m *Machine) runOnce(inputs []int, delta int) (e api.Errno) {
	ahead := slices.Clone(m.cells)
	r := run{rows: table(), steps: m.steps, cells: m.cells, delta: delta}
	// A scan that ends early may have set some cells already, but the outputs
	// are to stay those of the last scan that was OK.
	defer func() {
		m.done = r.done
		if e != api.OK {
			m.cells, m.failed = ahead, e
		}
	}()
	m.layInputs(inputs)
	return r.toEnd()
}

// takes tells whether there is one input for each input cell, of its kind, and
// none is left over.
func (m *Machine) takes(inputs []int) bool {
	for _, c := range m.cells {
		if c.role != layout.Input {
			continue
		}
		if len(inputs) == 0 || !c.holds(inputs[0]) {
			return false
		}
		inputs = inputs[1:]
	}
	return len(inputs) == 0
}

func (m *Machine) layInputs(inputs []int) {
	for i := range m.cells {
		if m.cells[i].role == layout.Input {
			m.cells[i].lay(inputs[0])
			inputs = inputs[1:]
		}
	}
}

// Outputs tells what the outputs are (P4).
func (m *Machine) Outputs() []int {
	var outputs []int
	for _, c := range m.cells {
		if c.role == layout.Output {
			outputs = append(outputs, int(c.value))
		}
	}
	return outputs
}

// Steps tells how many steps the last scan had (P4).
func (m *Machine) Steps() int { return m.done }
