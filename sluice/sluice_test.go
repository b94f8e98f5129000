package sluice_test

import (
	"slices"
	"strings"
	"sync"
	"testing"

	"sluice/api"
	"sluice/sluice"
	"sluice/vm"
)

// ask is Compile, with what P1, P2 and P5 say of every answer looked at.
func ask(t *testing.T, text string) (*vm.Machine, api.Errno) {
	t.Helper()
	image, e := sluice.Compile(text)
	if again, f := sluice.Compile(text); again != image || f != e {
		t.Errorf("P2: Compile(%q) answers otherwise the second time", text)
	}
	if e != api.OK {
		if image != "" {
			t.Errorf("P1: Compile(%q) answers an image beside error %d", text, e)
		}
		return nil, e
	}
	m, f := vm.Load(image)
	if f != api.OK {
		t.Fatalf("P5: the image of %q is not right: error %d", text, f)
	}
	return m, e
}

func wantAll(t *testing.T, want api.Errno, texts ...string) {
	t.Helper()
	for _, text := range texts {
		if _, e := ask(t, text); e != want {
			t.Errorf("P5: Compile(%q): error %d, want %d", text, e, want)
		}
	}
}

func machine(t *testing.T, text string) *vm.Machine {
	t.Helper()
	m, e := ask(t, text)
	if e != api.OK {
		t.Fatalf("P5: Compile(%q): error %d", text, e)
	}
	return m
}

// scan is one, and what is wanted of it.
type scan struct {
	inputs  []int
	delta   int
	outputs []int
	e       api.Errno
}

func nums(n ...int) []int { return n }

func ok(inputs, outputs []int) scan { return scan{inputs: inputs, outputs: outputs} }

func after(delta int, inputs, outputs []int) scan { return scan{inputs, delta, outputs, api.OK} }

func fails(e api.Errno, inputs, outputs []int) scan { return scan{inputs, 0, outputs, e} }

// does asks a text's machine for scans, one behind the other.
func does(t *testing.T, text string, scans ...scan) {
	t.Helper()
	m := machine(t, text)
	for i, s := range scans {
		if e := m.Scan(s.inputs, s.delta); e != s.e {
			t.Errorf("P6: %s: scan %d of %d: error %d, want %d", text, i, s.inputs, e, s.e)
		}
		if l := m.Outputs(); !slices.Equal(l, s.outputs) {
			t.Errorf("P6: %s: behind scan %d of %d: outputs %d, want %d", text, i, s.inputs, l, s.outputs)
		}
		if m.Steps() > m.Bound() {
			t.Errorf("P8: %s: scan %d of %d: %d steps, bound %d", text, i, s.inputs, m.Steps(), m.Bound())
		}
	}
}

func TestExamples(t *testing.T) {
	does(t, "IN a: INT; OUT b: INT; BEGIN b := (a + 1); END", ok(nums(32767), nums(-32768)), ok(nums(7), nums(8)))
	does(t, "IN go: BOOL; VAR t: TIMER; OUT up: BOOL; BEGIN up := TON(t, go, 100); END",
		after(60, nums(1), nums(0)), after(60, nums(1), nums(1)), after(60, nums(1), nums(1)), after(60, nums(0), nums(0)))
	does(t, "OUT s: DINT; VAR i: INT; BEGIN s := 0; FOR i := 1 TO 10 DO s := (s + i); END; END",
		ok(nil, nums(55)), ok(nil, nums(55)))
}

// The text that README.md shows.
func TestPlant(t *testing.T) {
	does(t, `IN level: ARRAY 2 OF INT; IN go: BOOL;
VAR wait: TIMER; VAR i: INT; VAR sum: DINT;
OUT pump: BOOL; OUT state: INT;
BEGIN
sum := 0;
FOR i := 0 TO 1 DO sum := (sum + level[i]); END;
pump := TON(wait, (go AND (sum < 1000)), 500);
CASE (sum / 1000) OF
WHEN 0: state := 1;
WHEN 1, 2: state := 2;
ELSE IF (sum < 0) THEN state := -1; ELSE state := 3; END;
END;
END
`, after(400, nums(300, 400, 1), nums(0, 1)), after(100, nums(300, 400, 1), nums(1, 1)), after(900, nums(600, 400, 1), nums(0, 2)),
		after(499, nums(0, 0, 1), nums(0, 1)), ok(nums(32767, 32767, 0), nums(0, 3)), ok(nums(-32768, 0, 0), nums(0, -1)))
}

func TestEveryTextIsAnswered(t *testing.T) {
	texts := []string{
		"", " ", "\x00", "\xff\xfe", "(", "-", ":", "BEGIN a := ", "BEGIN a[", "BEGIN CASE 1 OF WHEN", "VAR a: ARRAY",
		"BEGIN END\x00", strings.Repeat("(", 100000), strings.Repeat("BEGIN ", 100000), strings.Repeat("1", 1000000),
		"OUT a: BOOL; BEGIN a := " + strings.Repeat("(", 600), "OUT a: BOOL; BEGIN a := " + strings.Repeat("NOT ", 150),
		"BEGIN " + strings.Repeat("IF TRUE THEN ", 50), "VAR a: ARRAY 2 OF INT; BEGIN " + strings.Repeat("a[", 300),
		"VAR t: TIMER; BEGIN " + strings.Repeat("TON(t,", 100),
	}
	for _, text := range texts {
		wantAll(t, api.ErrText, text)
	}
	for c := range 256 {
		ask(t, string([]byte{byte(c)}))
		ask(t, "BEGIN END"+string([]byte{byte(c)}))
	}
}

// Each beginning of a text, and each text with a byte left out, is answered.
func TestPiecesOfTexts(t *testing.T) {
	text := "IN a: INT; OUT b: ARRAY 2 OF DINT; VAR t: TIMER; VAR i: INT; BEGIN IF TON(t, NOT (a < 1), -5) THEN b[0] := SHORT a; ELSE " +
		"CASE a OF WHEN 1, -2: FOR i := 1 TO 3 DO b[(i MOD 2)] := (b[1] + i); END; ELSE b[1] := 7; END; END; END"
	if _, e := ask(t, text); e != api.OK {
		t.Fatalf("P5: Compile(%q): error %d", text, e)
	}
	for i := range text {
		wantAll(t, api.ErrText, text[:i])
		ask(t, text[i:])
		ask(t, text[:i]+text[i+1:])
	}
}

func TestCallsAtTheSameTime(t *testing.T) {
	texts := []string{"BEGIN END", "BEGIN a := 1; END", "OUT a: INT; BEGIN CASE 1 OF WHEN 1: a := 2; END; END", "VAR i: INT; BEGIN FOR i := 1 TO 9 DO END; END"}
	var wg sync.WaitGroup
	for _, text := range texts {
		image, e := sluice.Compile(text)
		for range 4 {
			wg.Go(func() {
				if again, f := sluice.Compile(text); again != image || f != e {
					t.Errorf("P2: Compile(%q) answers otherwise beside other calls", text)
				}
			})
		}
	}
	wg.Wait()
}
