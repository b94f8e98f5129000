// Package vm: the machine: see DOC.md, P3 and P4.
package vm

import "sluice/api"

// Machine runs an image.
type Machine struct {
	cells []cell
	bound int
}

// Load makes a machine of an image (P3).
func Load(image string) (*Machine, api.Errno) {
	p, ok := readImage(image)
	if !ok || !p.settle() {
		return nil, api.ErrImage
	}
	bound, ok := findBound(p.steps)
	if !ok {
		return nil, api.ErrImage
	}
	if bound > api.MaxSteps {
		return nil, api.ErrLong
	}
	return &Machine{cells: p.cells, bound: bound}, api.OK
}

// Bound tells how many steps a scan has at most (P3).
func (m *Machine) Bound() int { return m.bound }

// Scan runs the image once (P4).
func (m *Machine) Scan(inputs []int, delta int) api.Errno { return api.OK }

// Outputs tells what the outputs are (P4).
func (m *Machine) Outputs() []int { return nil }

// Steps tells how many steps the last scan had (P4).
func (m *Machine) Steps() int { return 0 }
