package vm_test

import (
	"strings"
	"testing"

	"sluice/api"
	"sluice/vm"
)

// Cells: 3 times the role and the kind.
const (
	inBool  = "\x00"
	inInt   = "\x01"
	inDint  = "\x02"
	outBool = "\x03"
	outInt  = "\x04"
	outDint = "\x05"
	varBool = "\x06"
	varInt  = "\x07"
	varDint = "\x08"
)

// Instructions to which nothing belongs.
const (
	end   = "\x00"
	add   = "\x06"
	sub   = "\x07"
	mul   = "\x08"
	div   = "\x09"
	mod   = "\x0a"
	eq    = "\x0b"
	lt    = "\x0c"
	not   = "\x0d"
	and   = "\x0e"
	or    = "\x0f"
	short = "\x10"
	next  = "\x14"
)

func num(n int) string {
	return string([]byte{1, byte(n >> 24), byte(n >> 16), byte(n >> 8), byte(n)})
}

func wide(op byte, n int) string { return string([]byte{op, byte(n >> 8), byte(n)}) }

func get(c byte) string     { return string([]byte{2, c}) }
func set(c byte) string     { return string([]byte{3, c}) }
func getx(c, n byte) string { return string([]byte{4, c, n}) }
func setx(c, n byte) string { return string([]byte{5, c, n}) }
func jump(t int) string     { return wide(17, t) }
func unless(t int) string   { return wide(18, t) }
func loop(n int) string     { return wide(19, n) }
func timer(c byte) string   { return string([]byte{21, c}) }

func times(n int, parts ...string) string {
	return strings.Repeat(strings.Join(parts, ""), n)
}

func image(cells string, code ...string) string {
	c := strings.Join(code, "")
	return "SLUICE" + string([]byte{byte(len(cells))}) + cells + string([]byte{byte(len(c) >> 8), byte(len(c))}) + c
}

// ask is Load, with what P1 says of every answer looked at.
func ask(t *testing.T, s string) (int, api.Errno) {
	t.Helper()
	m, e := vm.Load(s)
	if (m == nil) != (e != api.OK) {
		t.Fatalf("P1: Load(%.80q) answers %v and %d", s, m, e)
	}
	if e != api.OK {
		return 0, e
	}
	return m.Bound(), e
}

func wantBound(t *testing.T, name, s string, bound int) {
	t.Helper()
	if n, e := ask(t, s); e != api.OK || n != bound {
		t.Errorf("P3: %s: bound %d and error %d, want bound %d", name, n, e, bound)
	}
}

func wantError(t *testing.T, name, s string, want api.Errno) {
	t.Helper()
	if _, e := ask(t, s); e != want {
		t.Errorf("P3: %s: error %d, want %d", name, e, want)
	}
}
