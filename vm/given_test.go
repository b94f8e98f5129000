package vm_test

import (
	"math"
	"sync"
	"testing"

	"sluice/api"
	"sluice/vm"
)

// samples are images of which some are right, some wrong and some too long.
func samples() []string {
	return []string{
		"",
		image("", end),
		image(inInt+outInt, get(0), set(1), end),
		image(varInt, num(1), unless(18), num(1), set(0), jump(25), num(2), set(0), end),
		image(varBool+varBool+varDint, num(1), getx(0, 2), num(1), timer(2), set(0), num(0), num(1), setx(0, 2), end),
		image("", loop(738), loop(269), next, next, end),
		image("", loop(739), loop(269), next, next, end),
		image("", times(10, loop(65535)), times(10, next), end),
		image(varInt, num(1), loop(3), num(2), add, next, set(0), end),
		image(varInt, set(0), end),
	}
}

func TestEveryByteChanged(t *testing.T) {
	for _, s := range samples() {
		for i := range s {
			for b := range 256 {
				changed := []byte(s)
				changed[i] = byte(b)
				ask(t, string(changed))
			}
			ask(t, s[:i])
			ask(t, s[i:])
			ask(t, s[:i]+s[i+1:])
		}
	}
}

func TestEveryCodeOfTwoBytes(t *testing.T) {
	for a := range 256 {
		for b := range 256 {
			code := string([]byte{byte(a), byte(b)})
			ask(t, image(varDint+varDint, code))
			ask(t, image(varDint+varDint, num(1), num(1), code, set(0), end))
		}
	}
}

func TestOtherCallsEnd(t *testing.T) {
	for _, s := range samples() {
		m, e := vm.Load(s)
		if e != api.OK {
			continue
		}
		for _, n := range []int{0, 1, -1, api.MaxDelta, api.MaxDelta + 1, math.MaxInt, math.MinInt} {
			for _, inputs := range [][]int{nil, {}, {n}, {n, n}, make([]int, 1000)} {
				m.Scan(inputs, n)
				m.Outputs()
				m.Steps()
			}
		}
	}
}

func TestSameAnswerAgain(t *testing.T) {
	type loaded struct {
		bound int
		e     api.Errno
	}
	var first []loaded
	for _, s := range samples() {
		n, e := ask(t, s)
		first = append(first, loaded{n, e})
	}
	var all sync.WaitGroup
	for range 8 {
		all.Go(func() {
			list := samples()
			for i := len(list) - 1; i >= 0; i-- {
				m, e := vm.Load(list[i])
				if e != first[i].e || e == api.OK && m.Bound() != first[i].bound {
					t.Errorf("P2: Load(%.80q) answers %d, ahead of that %v", list[i], e, first[i])
				}
			}
		})
	}
	all.Wait()
}

func TestMachinesAreTheirOwn(t *testing.T) {
	a, _ := vm.Load(image("", end))
	b, _ := vm.Load(image("", loop(10), next, end))
	c, _ := vm.Load(image("", end))
	if a == c {
		t.Errorf("P2: two machines are one")
	}
	if a.Bound() != 1 || b.Bound() != 12 || c.Bound() != 1 || a.Bound() != 1 {
		t.Errorf("P2: bounds %d, %d, %d", a.Bound(), b.Bound(), c.Bound())
	}
}
