package sluice_test

import (
	"strings"
	"testing"

	"sluice/api"
	"sluice/sluice"
)

func TestCompileEnds(t *testing.T) {
	for _, text := range []string{
		"", "BEGIN END", "\x00\xff", strings.Repeat("(", 100000), strings.Repeat("BEGIN ", 100),
		"OUT s: DINT; VAR i: INT; BEGIN s := 0; FOR i := 1 TO 10 DO s := (s + i); END; END",
	} {
		image, e := sluice.Compile(text)
		if e != api.OK && image != "" {
			t.Errorf("P1: Compile(%.80q) answers %q beside error %d", text, image, e)
		}
		if again, f := sluice.Compile(text); again != image || f != e {
			t.Errorf("P2: Compile(%.80q) answers otherwise the second time", text)
		}
	}
}
