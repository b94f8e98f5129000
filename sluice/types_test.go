package sluice_test

import (
	"strings"
	"testing"

	"sluice/api"
)

func TestNames(t *testing.T) {
	// A name stands where none of it is declared: in every place where a name can stand.
	wantAll(t, api.ErrName, with("x := 1;", "x[0] := 1;", "l[x] := 1;", "o := x;", "o := x[0];", "o := m[x];", "o := (x AND b);",
		"o := (b AND x);", "o := NOT x;", "p := SHORT x;", "o := TON(x, b, 1);", "o := TON(t, x, 1);", "o := TON(t, b, x);",
		"IF x THEN END;", "IF b THEN x := 1; END;", "IF b THEN ELSE x := 1; END;", "CASE x OF END;", "CASE n OF WHEN 1: x := 1; END;",
		"CASE n OF WHEN 1: WHEN 2: x := 1; END;", "CASE n OF ELSE x := 1; END;",
		"FOR x := 1 TO 2 DO END;", "FOR i := 1 TO 2 DO x := 1; END;", "FOR i := 1 TO 0 DO x := 1; END;", "o := b; o := x;")...)
	wantAll(t, api.ErrName, "BEGIN a := 1; END", "OUT aa: INT; BEGIN a := 1; END", "OUT a: INT; BEGIN aa := 1; END",
		"OUT a_: INT; BEGIN a := 1; END", "OUT a1: INT; BEGIN a := a2; END")
	for _, first := range []string{"IN a: INT; ", "OUT a: INT; ", "VAR a: INT; ", "VAR a: TIMER; ", "VAR a: ARRAY 2 OF BOOL; "} {
		for _, second := range []string{"IN a: BOOL; ", "OUT a: INT; ", "VAR a: DINT; ", "VAR a: TIMER; ", "VAR a: ARRAY 2 OF INT; "} {
			wantAll(t, api.ErrName, first+second+"BEGIN END", first+"VAR b: INT; "+second+"BEGIN END", second+first+first+"BEGIN END")
		}
		wantAll(t, api.OK, first+"BEGIN END", first+strings.Replace(first, "a:", "b:", 1)+"BEGIN END")
	}
}

func TestLiterals(t *testing.T) {
	// INT and DINT: the first go into an INT, the others not.
	wantAll(t, api.OK, with("p := 0;", "p := 32767;", "p := -32768;", "p := -0;", "p := 0032767;", "p := -00032768;")...)
	wantAll(t, api.ErrType, with("p := 32768;", "p := -32769;", "p := 2147483647;", "p := -2147483648;", "p := (32768 + 0);")...)
	wantAll(t, api.OK, with("q := 32767;", "q := 32768;", "q := -32769;", "q := 2147483647;", "q := -2147483648;", "p := SHORT 2147483647;",
		"p := SHORT -2147483648;", "q := "+strings.Repeat("0", 200)+"2147483647;")...)
	// Outside of both: wherever a literal can stand.
	for _, n := range []string{"2147483648", "-2147483649", "4294967296", "-4294967297", "4294967295", "9223372036854775807",
		"9223372036854775808", "-9223372036854775808", "-9223372036854775809", "18446744073709551616", "18446744073709551617",
		"340282366920938463463374607431768211457", strings.Repeat("9", 100), "-" + strings.Repeat("9", 100), "1" + strings.Repeat("0", 100)} {
		wantAll(t, api.ErrType, with("q := "+n+";", "p := SHORT "+n+";", "o := (n = "+n+");", "o := ("+n+" < n);", "p := l["+n+"];",
			"l["+n+"] := 1;", "o := TON(t, b, "+n+");", "CASE "+n+" OF END;", "CASE n OF WHEN "+n+": END;", "CASE n OF WHEN 1, "+n+": END;",
			"CASE n OF WHEN 1: WHEN "+n+": END;",
			"FOR j := "+n+" TO 1 DO END;", "FOR j := 1 TO "+n+" DO END;", "FOR i := "+n+" TO 1 DO END;", "FOR i := 1 TO 0 DO q := "+n+"; END;",
			"IF FALSE THEN q := "+n+"; END;")...)
	}
	wantAll(t, api.OK, with("CASE n OF WHEN 2147483647, -2147483648: END;", "CASE w OF WHEN 32768, -32769: END;")...)
}

func TestPlaces(t *testing.T) {
	wantAll(t, api.OK, with("p := l[0];", "p := l[n];", "p := l[w];", "p := l[70000];", "p := l[-1];", "p := l[l[l[0]]];", "o := m[0];",
		"l[0] := 1;", "l[w] := 1;", "l[70000] := 1;", "m[0] := b;", "p := k[0];")...)
	wantAll(t, api.ErrType, with("p := l;", "l := 1;", "l := l;", "m := b;", "o := m;", "o := (m = m);", "o := (l = l);", "p := SHORT l;",
		"IF m THEN END;", "CASE l OF END;", "o := TON(t, m, 1);", "o := TON(t, b, l);", "p := l[l];",
		"p := n[0];", "p[0] := 1;", "o := b[0];", "o[0] := b;", "p := i[0];", "t[0] := 1;", "q := t[0];", "p := l[b];", "p := l[TRUE];",
		"p := l[m[0]];", "l[b] := 1;", "l[(n = n)] := 1;", "p := l[t];", "l[t] := 1;")...)
}

func TestOperators(t *testing.T) {
	for _, op := range []string{"+", "-", "*", "/", "MOD"} {
		// Two INTs are INT; with a DINT it is DINT.
		wantAll(t, api.OK, with("p := (n "+op+" n);", "q := (n "+op+" n);", "q := (n "+op+" w);", "q := (w "+op+" n);", "q := (w "+op+" w);",
			"p := (1 "+op+" 2);", "p := SHORT (n "+op+" w);", "p := ((n "+op+" n) "+op+" n);")...)
		wantAll(t, api.ErrType, with("p := (n "+op+" w);", "p := (w "+op+" n);", "p := (w "+op+" w);", "p := (n "+op+" 32768);",
			"p := (n "+op+" (n "+op+" w));", "o := (n "+op+" n);", "o := (b "+op+" b);", "q := (b "+op+" n);", "q := (n "+op+" b);",
			"q := (b "+op+" b);", "q := (t "+op+" n);", "q := (n "+op+" t);", "q := (l "+op+" n);", "q := (n "+op+" l);")...)
	}
	wantAll(t, api.OK, with("o := (b = b);", "o := (n = n);", "o := (n = w);", "o := (w = n);", "o := (w = w);", "o := (n < n);",
		"o := (n < w);", "o := (w < n);", "o := (w < w);", "o := (TRUE = (1 = 1));")...)
	wantAll(t, api.ErrType, with("o := (b = n);", "o := (n = b);", "o := (TRUE = 1);", "o := (t = t);", "o := (t = 1);", "o := (b < b);",
		"o := (b < n);", "o := (n < b);", "o := (t < t);", "o := (l < l);", "p := (n = n);", "q := (n < n);", "p := (b = b);")...)
	for _, op := range []string{"AND", "OR"} {
		wantAll(t, api.OK, with("o := (b "+op+" b);", "o := (m[0] "+op+" (n = n));")...)
		wantAll(t, api.ErrType, with("o := (n "+op+" n);", "o := (b "+op+" n);", "o := (n "+op+" b);", "o := (1 "+op+" 1);", "o := (t "+op+" b);",
			"o := (b "+op+" m);", "p := (b "+op+" b);", "p := (n "+op+" n);")...)
	}
	wantAll(t, api.OK, with("o := NOT b;", "o := NOT NOT (n = n);", "p := SHORT n;", "p := SHORT w;", "q := SHORT w;", "p := (SHORT w + n);", "p := SHORT SHORT w;")...)
	wantAll(t, api.ErrType, with("o := NOT n;", "o := NOT 1;", "o := NOT t;", "o := NOT m;", "p := NOT b;", "p := SHORT b;", "p := SHORT TRUE;",
		"p := SHORT t;", "p := SHORT l;", "o := SHORT n;")...)
	wantAll(t, api.OK, with("o := TON(t, b, n);", "o := TON(t, b, w);", "o := TON(t, NOT b, (n + w));", "o := TON(t, TON(t, b, 1), 2);")...)
	wantAll(t, api.ErrType, with("o := TON(n, b, 1);", "o := TON(j, b, 1);", "o := TON(b, b, 1);", "o := TON(l, b, 1);", "o := TON(t, n, 1);",
		"o := TON(t, 1, 1);", "o := TON(t, t, 1);", "o := TON(t, b, b);", "o := TON(t, b, t);", "o := TON(t, b, TRUE);", "p := TON(t, b, 1);",
		"q := TON(t, b, 1);")...)
}

func TestWhatIsSet(t *testing.T) {
	wantAll(t, api.OK, with("o := b;", "p := n;", "q := w;", "q := n;", "f := b;", "i := n;", "j := n;", "j := w;", "l[0] := n;", "m[0] := b;")...)
	wantAll(t, api.ErrType, with("o := n;", "o := w;", "o := 1;", "p := b;", "p := w;", "p := TRUE;", "q := b;", "f := 0;", "i := w;",
		"j := b;", "l[0] := w;", "l[0] := b;", "m[0] := n;", "o := t;", "q := t;")...)
	// Inputs and timers.
	wantAll(t, api.ErrType, with("b := b;", "n := n;", "w := w;", "w := n;", "k[0] := 1;", "k := 1;", "t := 1;", "t := t;", "t := w;",
		"t := b;", "IF b THEN n := 1; END;", "FOR i := 1 TO 0 DO n := 1; END;")...)
	// The name of a FOR around it.
	wantAll(t, api.ErrType, with("FOR i := 1 TO 2 DO i := 1; END;", "FOR i := 1 TO 0 DO i := 1; END;",
		"FOR i := 1 TO 2 DO IF b THEN i := 1; END; END;", "FOR i := 1 TO 2 DO CASE n OF WHEN 1: i := 1; END; END;",
		"FOR i := 1 TO 2 DO CASE n OF ELSE i := 1; END; END;",
		"FOR i := 1 TO 2 DO FOR j := 1 TO 2 DO i := 1; END; END;", "FOR i := 1 TO 2 DO FOR j := 1 TO 2 DO j := 1; END; END;",
		"FOR i := 1 TO 2 DO FOR j := 1 TO 2 DO END; i := 1; END;")...)
	wantAll(t, api.OK, with("i := 1; FOR i := 1 TO 2 DO END; i := 1;", "FOR i := 1 TO 2 DO j := 1; END;",
		"FOR i := 1 TO 2 DO FOR j := 1 TO 2 DO END; j := 1; END;", "FOR i := 1 TO 2 DO l[i] := i; p := i; END;")...)
}

func TestStatements(t *testing.T) {
	wantAll(t, api.OK, with("IF b THEN END;", "IF (n < w) THEN END;", "IF TON(t, b, 1) THEN END;", "CASE n OF END;", "CASE w OF WHEN 1: END;",
		"CASE n OF WHEN 40000: END;", "CASE (n + w) OF END;", "CASE n OF WHEN 1, 1: WHEN 1: END;")...)
	wantAll(t, api.ErrType, with("IF n THEN END;", "IF 1 THEN END;", "IF w THEN END;", "IF t THEN END;", "CASE b OF END;", "CASE TRUE OF END;",
		"CASE t OF END;", "CASE (n = n) OF WHEN 1: END;", "IF b THEN o := 1; END;", "IF b THEN ELSE o := 1; END;", "CASE n OF WHEN 1: o := 1; END;",
		"CASE n OF WHEN 1: WHEN 2: o := 1; END;", "CASE n OF ELSE o := 1; END;", "FOR i := 1 TO 2 DO o := 1; END;", "o := b; o := 1; o := b;")...)
}

func TestLoops(t *testing.T) {
	wantAll(t, api.OK, with("FOR i := 1 TO 2 DO END;", "FOR j := 1 TO 2 DO END;", "FOR i := 32767 TO 32767 DO END;",
		"FOR i := -32768 TO -32768 DO END;", "FOR i := 32767 TO -32768 DO END;", "FOR j := 32768 TO 32769 DO END;",
		"FOR j := 2147483647 TO 2147483647 DO END;", "FOR j := -2147483648 TO -2147483648 DO END;", "FOR j := 2147483647 TO -2147483648 DO END;",
		"FOR i := 1 TO 2 DO FOR j := 1 TO 2 DO END; FOR j := 1 TO 2 DO END; END; FOR i := 1 TO 2 DO END;")...)
	// The name is a variable of INT or DINT, of no FOR around it.
	wantAll(t, api.ErrType, with("FOR n := 1 TO 2 DO END;", "FOR w := 1 TO 2 DO END;", "FOR p := 1 TO 2 DO END;", "FOR q := 1 TO 2 DO END;",
		"FOR b := 0 TO 1 DO END;", "FOR f := 0 TO 1 DO END;", "FOR t := 1 TO 2 DO END;", "FOR l := 1 TO 2 DO END;", "FOR k := 1 TO 2 DO END;",
		"FOR m := 0 TO 1 DO END;", "FOR i := 1 TO 2 DO FOR i := 1 TO 2 DO END; END;", "FOR i := 1 TO 0 DO FOR i := 1 TO 0 DO END; END;",
		"FOR i := 1 TO 2 DO FOR j := 1 TO 2 DO FOR i := 1 TO 2 DO END; END; END;",
		"FOR i := 1 TO 2 DO IF b THEN FOR i := 1 TO 2 DO END; END; END;")...)
	// Both literals are in its range.
	wantAll(t, api.ErrType, with("FOR i := 32768 TO 1 DO END;", "FOR i := 1 TO 32768 DO END;", "FOR i := -32769 TO -32768 DO END;",
		"FOR i := 1 TO -32769 DO END;", "FOR i := 32768 TO 32768 DO END;", "FOR j := 2147483648 TO 1 DO END;",
		"FOR j := 2147483647 TO 2147483648 DO END;", "FOR j := -2147483649 TO -2147483648 DO END;", "FOR j := 1 TO -2147483649 DO END;")...)
}

func TestDeclarations(t *testing.T) {
	wantAll(t, api.OK, "VAR t: TIMER; BEGIN END", "VAR t: TIMER; VAR u: TIMER; BEGIN END", "VAR a: ARRAY 1 OF INT; BEGIN END",
		"VAR a: ARRAY 16 OF INT; BEGIN END", "IN a: ARRAY 016 OF BOOL; BEGIN END", "OUT a: ARRAY 1 OF DINT; BEGIN a[0] := 1; END")
	wantAll(t, api.ErrType, "IN t: TIMER; BEGIN END", "OUT t: TIMER; BEGIN END")
	for _, n := range []string{"0", "00", "17", "32", "256", "257", "65537", "4294967297", "18446744073709551617", strings.Repeat("9", 50)} {
		for _, kind := range []string{"BOOL", "INT", "DINT"} {
			wantAll(t, api.ErrType, "IN a: ARRAY "+n+" OF "+kind+"; BEGIN END", "OUT a: ARRAY "+n+" OF "+kind+"; BEGIN END", "VAR a: ARRAY "+n+" OF "+kind+"; BEGIN END")
		}
	}
}
