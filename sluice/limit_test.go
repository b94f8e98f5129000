package sluice_test

import (
	"slices"
	"strconv"
	"strings"
	"testing"

	"sluice/api"
)

func TestCells(t *testing.T) {
	full := "IN a: ARRAY 16 OF INT; OUT b: ARRAY 16 OF BOOL; VAR c: ARRAY 16 OF DINT; "
	wantAll(t, api.OK, full+"VAR d: ARRAY 12 OF BOOL; BEGIN END", full+"OUT d: ARRAY 11 OF INT; VAR e: TIMER; BEGIN END",
		full+"IN d: ARRAY 11 OF INT; IN e: BOOL; BEGIN END", full+"VAR d: ARRAY 12 OF INT; BEGIN CASE 1 OF WHEN 1: b[0] := TRUE; END; END")
	wantAll(t, api.ErrLimit, full+"VAR d: ARRAY 13 OF BOOL; BEGIN END", full+"OUT d: ARRAY 12 OF INT; VAR e: TIMER; BEGIN END",
		full+"IN d: ARRAY 12 OF INT; IN e: BOOL; BEGIN END", full+"VAR d: ARRAY 16 OF INT; BEGIN END",
		full+"VAR d: ARRAY 12 OF INT; OUT e: DINT; BEGIN END")
	for _, kind := range []string{"IN #:INT;", "OUT #:INT;", "VAR #:INT;"} {
		wantAll(t, api.OK, named(kind, 60)+"BEGIN END")
		wantAll(t, api.ErrLimit, named(kind, 61)+"BEGIN END", named(kind, 62)+"BEGIN END")
	}
	arrays := ""
	for i := range 20 {
		arrays += "VAR a" + strconv.Itoa(i) + ": ARRAY 16 OF INT; "
	}
	wantAll(t, api.ErrLimit, arrays+"BEGIN END")
}

func named(declaration string, n int) string {
	text := ""
	for i := range n {
		text += strings.ReplaceAll(declaration, "#", string([]byte{'a' + byte(i%26)})+strings.Repeat("_", i/26))
	}
	return text
}

// wantCost holds the cost of statements against MaxCost: beside them stands a
// FOR that is done so often that the program costs just as much, and once more.
func wantCost(t *testing.T, stmts string, cost int) {
	t.Helper()
	rest := api.MaxCost - 1 - 1 - cost
	filled := func(n int) string {
		return "IN b:BOOL;IN n:INT;VAR z:INT;VAR i:DINT;VAR j:DINT;VAR l:ARRAY 4 OF INT;VAR t:TIMER;VAR f:BOOL;VAR o:DINT;BEGIN FOR z:=1 TO " + strconv.Itoa(n) + " DO END;" + stmts + " END"
	}
	if _, e := ask(t, filled(rest)); e != api.OK {
		t.Errorf("P7: %s costs more than %d: error %d", stmts, cost, e)
	}
	if _, e := ask(t, filled(rest+1)); e != api.ErrLimit {
		t.Errorf("P7: %s costs less than %d: error %d", stmts, cost, e)
	}
	m := machine(t, strings.Replace(filled(0), "FOR z:=1 TO 0 DO END;", "", 1))
	if m.Bound() > 12*(1+cost) {
		t.Errorf("P7: %s: bound %d, cost %d", stmts, m.Bound(), 1+cost)
	}
}

func TestCost(t *testing.T) {
	for stmts, cost := range map[string]int{
		"": 0, "o := 1;": 2, "o := -1;": 2, "o := n;": 2, "f := TRUE;": 2, "f := FALSE;": 2, "o := l[1];": 3, "o := l[l[n]];": 4,
		"o := (n + 1);": 4, "o := ((n + 1) * (2 - n));": 8, "o := ((n + 1) * 2);": 6, "o := (2 * (n + 1));": 6, "f := (n < 1);": 4,
		"f := (b AND b);": 4,
		"f := NOT b;":     3, "f := NOT NOT b;": 4, "o := SHORT 1;": 3, "f := TON(t, b, 1);": 4, "f := TON(t, NOT b, (n + 1));": 7, "l[0] := 1;": 3,
		"l[(n + 1)] := (n + 2);": 7, "l[l[0]] := l[l[0]];": 6,
		"o := 1; o := 1; o := (1 + 1);": 8,
		"IF b THEN END;":                2, "IF NOT b THEN END;": 3, "IF b THEN o := 1; END;": 4, "IF b THEN ELSE END;": 2,
		"IF b THEN ELSE o := 1; END;": 4, "IF b THEN o := 1; o := 1; ELSE o := 1; END;": 6,
		"IF b THEN o := 1; ELSE o := 1; o := 1; o := 1; END;": 8,
		"CASE n OF END;": 2, "CASE (n + 1) OF END;": 4, "CASE n OF WHEN 1: END;": 3, "CASE n OF WHEN 1, 2, -3: END;": 5,
		"CASE n OF WHEN 1, 2: WHEN 3, 4: WHEN 5: END;": 7, "CASE n OF WHEN 1: o := 1; END;": 5,
		"CASE n OF WHEN 1: o := 1; WHEN 2: o := (1 + 1); WHEN 3: o := 1; END;": 9, "CASE n OF ELSE o := 1; END;": 4,
		"CASE n OF WHEN 1: o := 1; ELSE o := l[1]; END;": 6, "CASE n OF WHEN 1: o := (1 + 1); ELSE o := 1; END;": 7,
		"FOR i := 1 TO 1 DO END;": 2, "FOR i := 5 TO 5 DO END;": 2, "FOR i := 1 TO 10 DO END;": 11, "FOR i := -5 TO 5 DO END;": 12,
		"FOR i := 1 TO 0 DO END;": 1, "FOR i := 5 TO -5 DO o := 1; END;": 1, "FOR i := 1 TO 10 DO o := 1; END;": 31,
		"FOR i := 1 TO 10 DO o := 1; o := (o + i); END;": 71, "FOR i := 1 TO 10 DO FOR j := 1 TO 20 DO o := 1; END; END;": 1 + 10*(1+1+20*3),
		"FOR i := 1 TO 0 DO FOR j := 1 TO 100000 DO o := 1; END; END; o := 1;":          3,
		"IF b THEN FOR i := 1 TO 10 DO o := 1; END; ELSE FOR i := 1 TO 11 DO END; END;": 33,
		"FOR i := 1 TO 3 DO IF b THEN o := 1; ELSE o := n; o := n; END; END;":           1 + 3*(1+1+1+4),
		"FOR i := 1 TO 3 DO CASE i OF WHEN 1, 2: o := 1; WHEN 3: END; END;":             1 + 3*(1+1+1+3+2),
		"FOR j := 2147483647 TO 2147483647 DO END;":                                     2, "FOR j := 2147483647 TO -2147483648 DO END;": 1, "FOR j := -2147483648 TO -2147483600 DO END;": 50,
	} {
		wantCost(t, stmts, cost)
	}
}

func TestTooDear(t *testing.T) {
	loops := func(body string, ranges ...string) string {
		names, begin := "", ""
		for i, r := range ranges {
			name := string([]byte{'a' + byte(i)})
			names += "VAR " + name + ": DINT; "
			begin += "FOR " + name + " := " + r + " DO "
		}
		return names + "VAR z: INT; BEGIN " + begin + body + strings.Repeat("END; ", len(ranges)) + "END"
	}
	all, half, none := "-2147483648 TO 2147483647", "0 TO 2147483647", "1 TO 0"
	wantAll(t, api.OK, loops("", "1 TO 3998"), loops("", "-2147483648 TO -2147479651"), loops("", "1 TO 62", "1 TO 62"),
		loops("z := 1; ", "1 TO 1332"), loops("", "1 TO 1", "1 TO 3996"), loops("", "1 TO 1999", "1 TO 0"),
		loops("", slices.Repeat([]string{"1 TO 2"}, 10)...))
	wantAll(t, api.ErrLimit, loops("", "1 TO 3999"), loops("", "1 TO 4000"), loops("", "-2147483648 TO -2147479650"),
		loops("", "1 TO 62", "1 TO 63"), loops("", "1 TO 63", "1 TO 63"), loops("z := 1; ", "1 TO 1333"), loops("", "1 TO 1", "1 TO 3997"),
		loops("", "1 TO 2000", "1 TO 0"),
		loops("", "1 TO 65536"), loops("", "1 TO 65537"), loops("", "1 TO 65538"), loops("", all), loops("", half), loops("", all, all),
		loops("", half, half), loops("", half, all), loops("", all, all, all), loops("", half, half, half),
		loops("", all, all, all, all, all, all, all, all, all, all),
		loops("", half, half, half, half, half, half, half, half, half, half), loops("z := 1; ", all, half, all),
		loops("", "1 TO 65536", "1 TO 65536"), loops("", "1 TO 65536", "1 TO 65536", "1 TO 65536", "1 TO 65536"),
		loops("", "1 TO 256", "1 TO 256", "1 TO 256", "1 TO 256", "1 TO 256", "1 TO 256", "1 TO 256", "1 TO 256"),
		loops("", all, none), loops("z := 1; ", slices.Repeat([]string{"1 TO 2"}, 10)...))
	// What is in a FOR that is not done costs nothing.
	wantAll(t, api.OK, loops("", none, all, all), loops("z := 1; ", none, half, half, half, half), loops("", "1 TO 1999", none, all),
		loops("", none, all, all, all, all, all, all, all, all, all))
}

// Where several errors apply, the one named first is the answer, whichever
// stands first in the text.
func TestWhichErrorComesFirst(t *testing.T) {
	declared := map[api.Errno]string{api.ErrText: "VAR a INT; ", api.ErrName: "VAR d: INT; VAR d: INT; ", api.ErrType: "OUT e: TIMER; ",
		api.ErrLimit: "VAR f: ARRAY 16 OF INT; VAR g: ARRAY 16 OF INT; VAR h: ARRAY 16 OF INT; VAR k: ARRAY 13 OF INT; "}
	done := map[api.Errno]string{api.ErrText: "z := (1; ", api.ErrName: "y := 1; ", api.ErrType: "z := TRUE; ", api.ErrLimit: "FOR z := 1 TO 4000 DO END; "}
	errors := []api.Errno{api.ErrText, api.ErrName, api.ErrType, api.ErrLimit}
	for _, one := range errors {
		wantAll(t, one, declared[one]+"VAR z: INT; BEGIN END", "VAR z: INT; BEGIN "+done[one]+"END")
		for _, other := range errors {
			if one == other {
				continue
			}
			first := min(one, other)
			wantAll(t, first, declared[one]+"VAR z: INT; BEGIN "+done[other]+"END", "VAR z: INT; BEGIN "+done[one]+done[other]+"END",
				"VAR z: INT; "+declared[one]+declared[other]+"BEGIN END")
		}
	}
	wantAll(t, api.ErrText, "VAR z: INT; VAR z: INT; BEGIN y := TRUE; z := "+strings.Repeat("SHORT ", 11)+"1; END",
		"VAR z: INT; BEGIN y := 1; END"+strings.Repeat(" ", 700), "VAR z: INT; BEGIN z := TRUE; FOR z := 1 TO 9999 DO END; y := 1; END x")
	wantAll(t, api.ErrName, "IN z: TIMER; BEGIN FOR z := 1 TO 99999 DO y := 99999999999; END; END", "OUT a: ARRAY 17 OF INT; OUT a: INT; BEGIN END")
	wantAll(t, api.ErrType, "VAR z: DINT; BEGIN FOR z := 1 TO 99999 DO z := 1; END; END",
		"IN f: ARRAY 16 OF INT; IN g: ARRAY 16 OF INT; IN h: ARRAY 16 OF INT; IN k: ARRAY 13 OF INT; BEGIN k[0] := 1; END")
}
