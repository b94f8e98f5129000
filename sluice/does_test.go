package sluice_test

import (
	"testing"

	"sluice/api"
)

const (
	least = -2147483648
	most  = 2147483647
)

func TestOrderOfCells(t *testing.T) {
	// Inputs, outputs and variables mixed: each input goes to an output of its own.
	does(t, `IN a: INT; OUT x: DINT; VAR v: ARRAY 2 OF INT; IN b: ARRAY 3 OF INT; OUT y: ARRAY 2 OF INT; VAR t: TIMER; IN c: BOOL; OUT z: BOOL; IN d: DINT; OUT w: ARRAY 2 OF BOOL; OUT u: INT;
BEGIN x := d; y[0] := b[2]; y[1] := a; z := c; w[0] := NOT c; w[1] := (b[0] = 2); u := b[1]; END`,
		ok(nums(1, 2, 3, 4, 1, 70000), nums(70000, 4, 1, 1, 0, 1, 3)),
		ok(nums(-1, -2, -3, -4, 0, least), nums(least, -4, -1, 0, 1, 0, -3)),
		fails(api.ErrInput, nums(1, 2, 3, 4, 2, 5), nums(least, -4, -1, 0, 1, 0, -3)),
		fails(api.ErrInput, nums(32768, 2, 3, 4, 1, 5), nums(least, -4, -1, 0, 1, 0, -3)),
		fails(api.ErrInput, nums(1, 2, 3, 4, 1), nums(least, -4, -1, 0, 1, 0, -3)),
		fails(api.ErrInput, nums(1, 2, 3, 4, 1, 5, 6), nums(least, -4, -1, 0, 1, 0, -3)))
	does(t, "BEGIN END", ok(nil, nil), fails(api.ErrInput, nums(0), nil))
	does(t, "OUT a: ARRAY 16 OF INT; VAR i: INT; BEGIN FOR i := 0 TO 15 DO a[i] := (i * i); END; END",
		ok(nil, nums(0, 1, 4, 9, 16, 25, 36, 49, 64, 81, 100, 121, 144, 169, 196, 225)))
	does(t, "IN a: ARRAY 16 OF BOOL; OUT n: INT; VAR i: INT; BEGIN n := 0; FOR i := 0 TO 15 DO n := (n * 2); IF a[i] THEN n := (n + 1); END; END; END",
		ok(nums(0, 0, 0, 0, 0, 0, 0, 0, 0, 0, 0, 0, 0, 1, 1, 0), nums(6)), ok(nums(1, 0, 0, 0, 0, 0, 0, 0, 0, 0, 0, 0, 0, 0, 0, 1), nums(-32767)))
}

func TestAllBeginsAtZero(t *testing.T) {
	does(t,
		"OUT a: INT; OUT b: BOOL; OUT c: DINT; OUT d: ARRAY 2 OF INT; VAR e: INT; VAR f: ARRAY 2 OF BOOL; VAR g: TIMER; BEGIN b := (f[0] OR f[1]); a := e; d[1] := d[0]; END",
		ok(nil, nums(0, 0, 0, 0, 0)))
	does(t, "VAR a: BOOL; VAR t: TIMER; OUT b: BOOL; OUT c: BOOL; OUT d: BOOL; BEGIN b := a; c := TON(t, TRUE, 0); d := TON(t, TRUE, 1); END", ok(nil, nums(0, 1, 0)))
}

func TestOrderOfStatements(t *testing.T) {
	does(t, "VAR a: INT; OUT b: INT; OUT c: INT; BEGIN b := a; a := (a + 1); c := a; a := (a * 2); END", ok(nil, nums(0, 1)), ok(nil, nums(2, 3)), ok(nil, nums(6, 7)))
	does(t, "OUT a: INT; BEGIN a := 1; a := 2; a := 3; END", ok(nil, nums(3)))
	// What is not set stays, from scan to scan.
	does(t, "IN s: BOOL; IN v: INT; OUT a: INT; BEGIN IF s THEN a := v; END; END", ok(nums(1, 5), nums(5)), ok(nums(0, 6), nums(5)), ok(nums(1, 7), nums(7)))
}

func TestNumbersOfInt(t *testing.T) {
	for op, cases := range map[string][][3]int{
		"+":   {{1, 2, 3}, {32767, 1, -32768}, {32767, 32767, -2}, {-32768, -1, 32767}, {-32768, -32768, 0}, {-5, 3, -2}},
		"-":   {{1, 2, -1}, {-32768, 1, 32767}, {32767, -1, -32768}, {0, -32768, -32768}, {-32768, 32767, 1}},
		"*":   {{3, -4, -12}, {256, 128, -32768}, {256, 256, 0}, {300, 300, 24464}, {-32768, -1, -32768}, {32767, 32767, 1}, {-32768, -32768, 0}},
		"/":   {{7, 2, 3}, {-7, 2, -3}, {7, -2, -3}, {-7, -2, 3}, {-32768, -1, -32768}, {1, 32767, 0}, {-32768, 1, -32768}, {0, 5, 0}},
		"MOD": {{7, 2, 1}, {-7, 2, -1}, {7, -2, 1}, {-7, -2, -1}, {-32768, -1, 0}, {5, 32767, 5}, {-32768, 7, -1}},
	} {
		for _, c := range cases {
			does(t, "IN a: INT; IN b: INT; OUT c: INT; OUT d: DINT; BEGIN c := (a "+op+" b); d := (a "+op+" b); END", ok(nums(c[0], c[1]), nums(c[2], c[2])))
		}
	}
	// Each step is laid into an INT, not the last one alone.
	does(t,
		"IN a: INT; OUT b: INT; OUT c: INT; OUT d: BOOL; OUT e: DINT; BEGIN b := ((a + 1) / 2); c := ((a * 2) MOD 10); d := ((a + 1) < a); e := ((a + 1) + 70000); END",
		ok(nums(32767), nums(-16384, -2, 1, 37232)), ok(nums(10), nums(5, 0, 0, 70011)))
	does(t, "OUT a: DINT; OUT b: DINT; OUT c: DINT; BEGIN a := (32767 + 1); b := (32768 + 1); c := (-32768 / -1); END", ok(nil, nums(-32768, 32769, -32768)))
	does(t, "IN a: INT; VAR l: ARRAY 2 OF INT; OUT b: INT; BEGIN l[1] := 9; b := l[((a + 1) + 32767)]; END", fails(api.ErrIndex, nums(32767), nums(0)))
	does(t, "IN a: INT; VAR l: ARRAY 2 OF INT; OUT b: INT; BEGIN l[1] := 9; b := l[((a + 2) + 32767)]; END", ok(nums(32767), nums(0)))
}

func TestNumbersOfDint(t *testing.T) {
	for op, cases := range map[string][][3]int{
		"+":   {{1, 2, 3}, {32767, 1, 32768}, {most, 1, least}, {most, most, -2}, {least, -1, most}, {least, least, 0}},
		"-":   {{1, 2, -1}, {least, 1, most}, {most, -1, least}, {0, least, least}, {-32768, 1, -32769}},
		"*":   {{300, 300, 90000}, {65536, 32768, least}, {65536, 65536, 0}, {least, -1, least}, {most, most, 1}, {least, least, 0}, {100000, 100000, 1410065408}},
		"/":   {{7, 2, 3}, {-7, 2, -3}, {7, -2, -3}, {-7, -2, 3}, {least, -1, least}, {most, 2, 1073741823}, {least, 2, -1073741824}, {-32768, -1, 32768}},
		"MOD": {{7, 2, 1}, {-7, 2, -1}, {7, -2, 1}, {-7, -2, -1}, {least, -1, 0}, {least, 10, -8}, {most, 10, 7}},
	} {
		for _, c := range cases {
			does(t, "IN a: DINT; IN b: DINT; OUT c: DINT; OUT d: INT; BEGIN c := (a "+op+" b); d := SHORT (a "+op+" b); END",
				ok(nums(c[0], c[1]), nums(c[2], int(int16(c[2])))))
		}
	}
	// An INT and a DINT, in either order, are reckoned in DINT.
	does(t,
		"IN a: INT; IN b: DINT; OUT c: DINT; OUT d: DINT; OUT e: DINT; OUT f: DINT; OUT g: DINT; BEGIN c := (a + b); d := (b + a); e := (a * b); f := (b - a); g := (a - b); END",
		ok(nums(32767, 1), nums(32768, 32768, 32767, -32766, 32766)), ok(nums(-32768, most), nums(2147450879, 2147450879, 32768, -2147450881, 2147450881)))
	// An INT for a DINT keeps its sign.
	does(t, "IN a: INT; OUT b: DINT; VAR l: ARRAY 2 OF DINT; OUT c: DINT; BEGIN b := a; l[1] := a; c := l[1]; END",
		ok(nums(-32768), nums(-32768, -32768)), ok(nums(32767), nums(32767, 32767)))
	does(t, "OUT a: DINT; OUT b: DINT; OUT c: INT; OUT d: INT; BEGIN a := -2147483648; b := 2147483647; c := -32768; d := - 7; END",
		ok(nil, nums(least, most, -32768, -7)))
}

func TestShort(t *testing.T) {
	for _, c := range [][2]int{{0, 0}, {32767, 32767}, {32768, -32768}, {65535, -1}, {65536, 0}, {70000, 4464}, {-1, -1}, {-32768, -32768},
		{-32769, 32767}, {most, -1}, {least, 0}} {
		does(t, "IN a: DINT; OUT b: INT; OUT c: DINT; OUT d: BOOL; BEGIN b := SHORT a; c := (SHORT a + 70000); d := (SHORT a = a); END",
			ok(nums(c[0]), nums(c[1], c[1]+70000, one(c[0] == c[1]))))
	}
	does(t, "IN a: INT; OUT b: INT; BEGIN b := SHORT SHORT a; END", ok(nums(-32768), nums(-32768)))
}

func one(b bool) int {
	if b {
		return 1
	}
	return 0
}

func TestComparisons(t *testing.T) {
	values := []int{least, least + 1, -32769, -32768, -1, 0, 1, 32767, 32768, most - 1, most}
	for _, a := range values {
		for _, b := range values {
			does(t, "IN a: DINT; IN b: DINT; OUT c: BOOL; OUT d: BOOL; BEGIN c := (a = b); d := (a < b); END", ok(nums(a, b), nums(one(a == b), one(a < b))))
		}
	}
	does(t, "IN a: INT; IN b: DINT; OUT c: BOOL; OUT d: BOOL; OUT e: BOOL; OUT f: BOOL; BEGIN c := (a = b); d := (b = a); e := (a < b); f := (b < a); END",
		ok(nums(-1, 65535), nums(0, 0, 1, 0)), ok(nums(-1, -1), nums(1, 1, 0, 0)), ok(nums(0, 65536), nums(0, 0, 1, 0)), ok(nums(3, least), nums(0, 0, 0, 1)))
}

func TestBools(t *testing.T) {
	for a := range 2 {
		for b := range 2 {
			does(t,
				"IN a: BOOL; IN b: BOOL; OUT c: BOOL; OUT d: BOOL; OUT e: BOOL; OUT f: BOOL; OUT g: BOOL; OUT h: BOOL; BEGIN c := (a AND b); d := (a OR b); e := (a = b); f := NOT a; g := TRUE; h := FALSE; END",
				ok(nums(a, b), nums(a&b, a|b, one(a == b), 1-a, 1, 0)))
		}
	}
	does(t, "IN a: INT; OUT b: BOOL; OUT c: BOOL; BEGIN b := NOT (a < 5); c := (NOT (a = 5) AND (NOT FALSE = TRUE)); END",
		ok(nums(4), nums(0, 1)), ok(nums(5), nums(1, 0)), ok(nums(6), nums(1, 1)))
}

func TestOrderOfWork(t *testing.T) {
	const begin = "IN a: INT; VAR l: ARRAY 3 OF INT; VAR m: ARRAY 2 OF BOOL; VAR t: TIMER; OUT o: INT; OUT p: BOOL; BEGIN o := 1; "
	for stmts, want := range map[string]api.Errno{
		// First the index, then the expression is worked out, then the index is looked at.
		"l[a] := (1 / 0);": api.ErrZero, "l[a] := (1 MOD 0);": api.ErrZero, "l[(1 / 0)] := l[a];": api.ErrZero, "l[l[a]] := (1 / 0);": api.ErrIndex,
		"l[a] := 1;": api.ErrIndex, "l[9] := l[(1 / 0)];": api.ErrZero, "l[0] := l[9];": api.ErrIndex,
		// The left side first; both always.
		"o := (l[a] + (1 / 0));": api.ErrIndex, "o := ((1 / 0) + l[a]);": api.ErrZero, "o := (l[a] / 0);": api.ErrIndex,
		"o := (1 / l[a]);": api.ErrIndex, "o := ((1 / 0) / 0);": api.ErrZero,
		"p := (FALSE AND ((1 / 0) = 1));": api.ErrZero, "p := (TRUE OR ((1 / 0) = 1));": api.ErrZero, "p := (FALSE AND m[a]);": api.ErrIndex,
		"p := (TRUE OR m[a]);": api.ErrIndex, "p := (m[a] AND ((1 / 0) = 1));": api.ErrIndex, "p := (((1 / 0) = 1) OR m[a]);": api.ErrZero,
		"p := ((1 / 0) = l[a]);": api.ErrZero, "p := (l[a] < (1 / 0));": api.ErrIndex, "o := (0 * (1 / 0));": api.ErrZero,
		"p := TON(t, m[a], (1 / 0));": api.ErrIndex, "p := TON(t, ((1 / 0) = 1), l[a]);": api.ErrZero, "p := TON(t, FALSE, (1 / 0));": api.ErrZero,
		// Where they stand.
		"IF m[a] THEN o := (1 / 0); END;": api.ErrIndex, "IF ((1 / 0) = 1) THEN END;": api.ErrZero, "CASE l[a] OF END;": api.ErrIndex,
		"CASE (1 / 0) OF WHEN 1: END;": api.ErrZero, "o := (1 / 0); o := l[a];": api.ErrZero, "o := l[a]; o := (1 / 0);": api.ErrIndex,
		"o := SHORT (1 / 0);": api.ErrZero, "p := NOT m[a];": api.ErrIndex, "o := -1; o := (o MOD (o + 1));": api.ErrZero,
	} {
		for _, a := range []int{3, -1, 32767, -32768} {
			does(t, begin+stmts+" END", fails(want, nums(a), nums(0, 0)), fails(want, nums(0), nums(0, 0)))
		}
	}
	for _, stmts := range []string{"IF FALSE THEN o := (1 / 0); END;", "IF TRUE THEN ELSE o := l[a]; END;",
		"CASE 1 OF WHEN 2: o := (1 / 0); WHEN 1: WHEN 1: o := l[a]; ELSE o := l[a]; END;"} {
		does(t, begin+stmts+" END", ok(nums(3), nums(1, 0)))
	}
}

func TestIndexes(t *testing.T) {
	const text = "IN a: DINT; VAR l: ARRAY 3 OF INT; OUT o: INT; BEGIN l[0] := 10; l[1] := 11; l[2] := 12; o := l[a]; END"
	for i := range 3 {
		does(t, text, ok(nums(i), nums(10+i)))
	}
	for _, i := range []int{-1, 3, 4, 255, 256, 257, 65536, 65537, most, least} {
		does(t, text, fails(api.ErrIndex, nums(i), nums(0)))
		does(t, "IN a: DINT; VAR x: INT; OUT l: ARRAY 3 OF INT; VAR y: INT; BEGIN l[a] := 7; END", ok(nums(1), nums(0, 7, 0)),
			fails(api.ErrIndex, nums(i), nums(0, 7, 0)), fails(api.ErrIndex, nums(1), nums(0, 7, 0)))
	}
	does(t, "OUT l: ARRAY 1 OF INT; BEGIN l[0] := (l[0] + 1); END", ok(nil, nums(1)), ok(nil, nums(2)))
	does(t, "IN a: INT; OUT l: ARRAY 1 OF INT; BEGIN l[a] := 1; END", fails(api.ErrIndex, nums(1), nums(0)))
	// Arrays side by side do not reach into one another.
	does(t, "IN a: INT; OUT k: ARRAY 2 OF INT; OUT l: ARRAY 2 OF INT; OUT m: ARRAY 2 OF INT; BEGIN l[a] := 5; END",
		ok(nums(0), nums(0, 0, 5, 0, 0, 0)), ok(nums(1), nums(0, 0, 5, 5, 0, 0)), fails(api.ErrIndex, nums(2), nums(0, 0, 5, 5, 0, 0)))
	does(t, "VAR l: ARRAY 4 OF INT; OUT o: INT; BEGIN l[3] := 2; l[2] := 1; l[1] := 3; o := l[l[l[l[1]]]]; END", ok(nil, nums(3)))
}

func TestChoices(t *testing.T) {
	does(t, "IN a: INT; OUT o: INT; OUT p: INT; BEGIN IF (a < 0) THEN o := 1; p := (p + 1); ELSE o := 2; IF (a = 0) THEN o := 3; END; END; p := (p + 10); END",
		ok(nums(-1), nums(1, 11)), ok(nums(0), nums(3, 21)), ok(nums(1), nums(2, 31)))
	does(t,
		"IN a: BOOL; OUT o: INT; BEGIN IF a THEN END; IF a THEN ELSE END; IF a THEN o := (o + 1); ELSE END; IF a THEN ELSE o := (o + 100); END; END",
		ok(nums(1), nums(1)), ok(nums(0), nums(101)), ok(nums(1), nums(102)))
	// In one another: one way through.
	does(t,
		"IN a: ARRAY 3 OF BOOL; OUT o: INT; BEGIN IF a[0] THEN IF a[1] THEN IF a[2] THEN o := 7; ELSE o := 6; END; ELSE IF a[2] THEN o := 5; ELSE o := 4; END; END; ELSE IF a[1] THEN IF a[2] THEN o := 3; ELSE o := 2; END; ELSE IF a[2] THEN o := 1; ELSE o := 0; END; END; END; END",
		ok(nums(0, 0, 0), nums(0)), ok(nums(0, 0, 1), nums(1)), ok(nums(0, 1, 0), nums(2)), ok(nums(0, 1, 1), nums(3)), ok(nums(1, 0, 0), nums(4)),
		ok(nums(1, 0, 1), nums(5)), ok(nums(1, 1, 0), nums(6)), ok(nums(1, 1, 1), nums(7)))
}

func TestCases(t *testing.T) {
	// The first WHEN that has the number; the ELSE, if none has.
	does(t,
		"IN a: DINT; OUT o: INT; BEGIN CASE a OF WHEN 1, 2: o := 1; WHEN 2, 3: o := 2; WHEN 3, 3, -1: o := 3; WHEN -2147483648: o := 4; WHEN 2147483647, 0: o := 5; ELSE o := 9; END; END",
		ok(nums(1), nums(1)), ok(nums(2), nums(1)), ok(nums(3), nums(2)), ok(nums(-1), nums(3)), ok(nums(least), nums(4)), ok(nums(most), nums(5)),
		ok(nums(0), nums(5)), ok(nums(4), nums(9)), ok(nums(65537), nums(9)), ok(nums(-2), nums(9)))
	does(t, "IN a: INT; OUT o: INT; BEGIN CASE a OF WHEN 65535: o := 1; WHEN -1: o := 2; WHEN 32768, -32769: o := 3; END; END",
		ok(nums(5), nums(0)), ok(nums(-1), nums(2)), ok(nums(-32768), nums(2)), ok(nums(32767), nums(2)))
	does(t, "IN a: INT; OUT o: INT; BEGIN CASE (a + 1) OF WHEN -32768: o := 1; WHEN 32768: o := 2; END; END", ok(nums(32767), nums(1)))
	does(t,
		"IN a: INT; OUT o: INT; BEGIN CASE a OF WHEN 1: WHEN 2: o := 2; ELSE END; CASE a OF END; CASE a OF ELSE o := (o + 10); END; CASE a OF WHEN 7: END; END",
		ok(nums(1), nums(10)), ok(nums(2), nums(12)), ok(nums(3), nums(22)))
	// It is worked out once, ahead of its branches; a CASE in a branch, or one behind, does not mix with it.
	does(t,
		"VAR a: INT; OUT o: INT; BEGIN a := 1; CASE a OF WHEN 1: a := 2; CASE (a + 1) OF WHEN 1: o := (o + 1); WHEN 3: o := (o + 10); ELSE o := (o + 100); END; WHEN 2, 3: o := (o + 1000); ELSE o := (o + 10000); END; END",
		ok(nil, nums(10)), ok(nil, nums(20)))
	does(t,
		"IN a: INT; IN b: INT; OUT o: INT; BEGIN CASE a OF WHEN 1: CASE b OF WHEN 1: o := 11; WHEN 2: o := 12; END; WHEN 2: CASE b OF WHEN 1: o := 21; ELSE o := 29; END; ELSE CASE b OF WHEN 1: o := 91; END; END; END",
		ok(nums(1, 1), nums(11)), ok(nums(1, 2), nums(12)), ok(nums(2, 1), nums(21)), ok(nums(2, 2), nums(29)), ok(nums(3, 1), nums(91)),
		ok(nums(3, 2), nums(91)), ok(nums(1, 3), nums(91)))
	does(t,
		"VAR t: TIMER; OUT o: INT; VAR l: ARRAY 2 OF INT; BEGIN l[0] := (l[0] + 1); CASE l[0] OF WHEN 1, 2: IF TON(t, TRUE, 10) THEN o := 2; ELSE o := 1; END; WHEN 3: o := 3; END; END",
		after(6, nil, nums(1)), after(6, nil, nums(2)), ok(nil, nums(3)))
	// A cell of its own for what it keeps: no variable is touched.
	does(t,
		"OUT a: INT; OUT b: INT; VAR i: DINT; OUT c: INT; BEGIN FOR i := 1 TO 3 DO CASE i OF WHEN 1: a := (a + 1); WHEN 2: b := (b + 1); ELSE c := (c + 1); END; END; END",
		ok(nil, nums(1, 1, 1)), ok(nil, nums(2, 2, 2)))
}

func TestFors(t *testing.T) {
	// Each number from the first to the second one, in their order; the last one behind it.
	digits := "VAR i: INT; OUT n: DINT; OUT e: INT; BEGIN n := 0; FOR i := # DO n := ((n * 10) + i); END; e := i; END"
	for r, want := range map[string][]int{"1 TO 5": {12345, 5}, "3 TO 3": {3, 3}, "0 TO 2": {12, 2}, "-1 TO 1": {-99, 1},
		"-3 TO -1": {-321, -1}, "2 TO 1": {0, 2}, "5 TO -5": {0, 5}, "32767 TO 32767": {32767, 32767}, "-32768 TO -32767": {-360447, -32767},
		"32767 TO -32768": {0, 32767}, "-32768 TO -32768": {-32768, -32768}, "32766 TO 32767": {360427, 32767}} {
		does(t, replaced(digits, r), ok(nil, want), ok(nil, want))
	}
	wide := "VAR i: DINT; OUT n: INT; OUT f: DINT; OUT e: DINT; BEGIN n := 0; f := 0; FOR i := # DO n := (n + 1); IF (n = 1) THEN f := i; END; END; e := i; END"
	for r, want := range map[string][]int{"2147483646 TO 2147483647": {2, most - 1, most}, "-2147483648 TO -2147483647": {2, least, least + 1},
		"-2147483648 TO -2147483648": {1, least, least}, "2147483647 TO 2147483647": {1, most, most}, "2147483647 TO -2147483648": {0, 0, most},
		"32767 TO 32769": {3, 32767, 32769}, "1 TO 0": {0, 0, 1}, "1 TO 270": {270, 1, 270}, "-100 TO 155": {256, -100, 155},
		"0 TO 299": {300, 0, 299}} {
		does(t, replaced(wide, r), ok(nil, want), ok(nil, want))
	}
	// In one another, and one behind the other.
	does(t,
		"VAR i: INT; VAR j: INT; OUT n: INT; OUT a: INT; OUT b: INT; BEGIN n := 0; FOR i := 1 TO 3 DO FOR j := 1 TO 4 DO n := (n + (i * j)); END; FOR j := 9 TO 8 DO n := 0; END; END; a := i; b := j; END",
		ok(nil, nums(60, 3, 9)))
	does(t,
		"VAR i: INT; OUT n: INT; BEGIN n := 0; FOR i := 1 TO 3 DO n := (n + 1); END; FOR i := 10 TO 12 DO n := (n + i); END; i := 100; FOR i := 1 TO 0 DO END; n := (n + i); END",
		ok(nil, nums(37)))
	// A FOR that is not done sets its variable nonetheless, also one in a FOR that is done.
	does(t, "VAR i: INT; VAR j: INT; OUT n: INT; BEGIN j := 50; n := 0; FOR i := 1 TO 3 DO n := (n + j); FOR j := 2 TO 1 DO END; END; END",
		ok(nil, nums(54)), ok(nil, nums(54)))
	// What stands in one that is not done is not done: its FORs do not set theirs.
	does(t,
		"VAR i: INT; VAR j: INT; OUT n: INT; OUT t: BOOL; BEGIN j := 50; FOR i := 2 TO 1 DO FOR j := 1 TO 3 DO END; n := 1; n := (1 / 0); END; t := (j = 50); END",
		ok(nil, nums(0, 1)))
	// An error ends it.
	does(t, "IN a: INT; VAR i: INT; OUT n: INT; BEGIN FOR i := 1 TO 5 DO n := (10 / (i - a)); END; END", ok(nums(6), nums(-10)),
		fails(api.ErrZero, nums(3), nums(-10)), fails(api.ErrZero, nums(6), nums(-10)))
	does(t, "VAR i: INT; OUT l: ARRAY 4 OF INT; BEGIN FOR i := 1 TO 4 DO l[i] := i; END; END", fails(api.ErrIndex, nil, nums(0, 0, 0, 0)))
	// With choices in it that end with it.
	does(t,
		"IN a: INT; VAR i: INT; OUT n: INT; BEGIN n := 0; FOR i := 1 TO 6 DO IF (i < a) THEN n := (n + 1); END; END; FOR i := 1 TO 6 DO CASE i OF WHEN 2, 4: n := (n + 10); WHEN 6: n := (n + 100); END; END; END",
		ok(nums(4), nums(123)))
}

func replaced(text, r string) string {
	for i := range text {
		if text[i] == '#' {
			return text[:i] + r + text[i+1:]
		}
	}
	return text
}

func TestTimers(t *testing.T) {
	const text = "IN go: BOOL; IN p: DINT; VAR t: TIMER; OUT up: BOOL; BEGIN up := TON(t, go, p); END"
	does(t, text, after(99, nums(1, 100), nums(0)), after(1, nums(1, 100), nums(1)), after(0, nums(1, 101), nums(0)),
		after(0, nums(0, 0), nums(0)), after(99, nums(1, 100), nums(0)), after(1, nums(0, 100), nums(0)), after(1, nums(1, 100), nums(0)))
	does(t, text, after(0, nums(1, 0), nums(1)), after(0, nums(1, -1), nums(1)), after(0, nums(0, -1), nums(0)),
		after(0, nums(1, least), nums(1)), after(5, nums(1, most), nums(0)))
	full := []scan{}
	for range 2147 {
		full = append(full, after(1000000, nums(1, most), nums(0)))
	}
	full = append(full, after(483646, nums(1, most), nums(0)), after(1, nums(1, most), nums(1)), after(1000000, nums(1, most), nums(1)),
		after(0, nums(0, 1), nums(0)), after(0, nums(1, 1), nums(0)))
	does(t, text, full...)
	// Each timer is one of its own; one that is not come to stays as it is; one that is come to twice goes on twice.
	does(t, "IN a: BOOL; IN b: BOOL; VAR t: TIMER; VAR u: TIMER; OUT x: BOOL; OUT y: BOOL; BEGIN x := TON(t, a, 10); y := TON(u, b, 10); END",
		after(5, nums(1, 0), nums(0, 0)), after(5, nums(1, 1), nums(1, 0)), after(5, nums(0, 1), nums(0, 1)))
	does(t, "IN a: BOOL; VAR t: TIMER; OUT x: BOOL; BEGIN IF a THEN x := TON(t, TRUE, 10); END; END", after(6, nums(1), nums(0)),
		after(6, nums(0), nums(0)), after(6, nums(0), nums(0)), after(3, nums(1), nums(0)), after(1, nums(1), nums(1)))
	does(t, "VAR t: TIMER; OUT x: BOOL; OUT y: BOOL; BEGIN x := TON(t, TRUE, 10); y := TON(t, TRUE, 10); END", after(3, nil, nums(0, 0)),
		after(3, nil, nums(0, 1)), after(3, nil, nums(1, 1)))
	does(t, "VAR t: TIMER; VAR i: INT; OUT n: INT; BEGIN n := 0; FOR i := 1 TO 5 DO IF TON(t, TRUE, 12) THEN n := (n + 1); END; END; END",
		after(3, nil, nums(2)), after(3, nil, nums(5)))
	// In one another, the inner one is first; of two sides the left one.
	does(t, "VAR t: TIMER; OUT x: BOOL; BEGIN x := TON(t, TON(t, TRUE, 5), 10); END", after(5, nil, nums(1)), after(4, nil, nums(1)))
	does(t, "VAR t: TIMER; OUT x: BOOL; OUT y: BOOL; BEGIN x := (TON(t, TRUE, 5) = TON(t, FALSE, 5)); y := TON(t, TRUE, 5); END",
		after(4, nil, nums(1, 0)), after(4, nil, nums(0, 0)))
	// The bare number of a span may be an INT that ran over.
	does(t, "IN p: INT; VAR t: TIMER; OUT x: BOOL; BEGIN x := TON(t, TRUE, (p + 1)); END", after(0, nums(32767), nums(1)), after(0, nums(32766), nums(0)))
}

func TestFaults(t *testing.T) {
	// The outputs stay as they were, and the error is the answer for ever.
	does(t, "IN a: INT; OUT b: INT; OUT c: INT; BEGIN b := a; c := (100 / a); END", ok(nums(5), nums(5, 20)),
		fails(api.ErrZero, nums(0), nums(5, 20)), fails(api.ErrZero, nums(5), nums(5, 20)))
	does(t, "IN a: INT; OUT b: INT; OUT c: INT; BEGIN b := a; c := (100 MOD a); END", ok(nums(7), nums(7, 2)), fails(api.ErrZero, nums(0), nums(7, 2)))
	does(t, "IN a: DINT; OUT b: INT; OUT c: DINT; BEGIN b := 1; c := (a / (a - a)); END", fails(api.ErrZero, nums(5), nums(0, 0)))
	does(t, "IN a: INT; OUT b: ARRAY 2 OF INT; BEGIN b[0] := a; b[a] := 9; END", ok(nums(1), nums(1, 9)),
		fails(api.ErrIndex, nums(2), nums(1, 9)), fails(api.ErrIndex, nums(1), nums(1, 9)))
	does(t, "IN a: INT; OUT b: INT; VAR l: ARRAY 2 OF INT; BEGIN b := a; b := l[a]; END", fails(api.ErrIndex, nums(-1), nums(0)))
	// 0 by 0 too, and 0 as an INT that ran over.
	does(t, "IN a: INT; OUT b: INT; BEGIN b := (0 / (a * 256)); END", fails(api.ErrZero, nums(256), nums(0)))
}
