package sluice_test

import (
	"strconv"
	"strings"
	"testing"

	"sluice/api"
)

// declares has one of every kind, for tests of statements.
const declares = "IN b:BOOL;IN n:INT;IN w:DINT;IN k:ARRAY 2 OF INT;OUT o:BOOL;OUT p:INT;OUT q:DINT;VAR f:BOOL;VAR i:INT;VAR j:DINT;VAR l:ARRAY 3 OF INT;VAR m:ARRAY 2 OF BOOL;VAR t:TIMER;"

func with(stmts ...string) []string {
	var texts []string
	for _, s := range stmts {
		texts = append(texts, declares+"BEGIN "+s+" END")
	}
	return texts
}

func setting(exprs ...string) []string {
	var texts []string
	for _, e := range exprs {
		texts = append(texts, with("o := "+e+";")...)
	}
	return texts
}

func TestPrograms(t *testing.T) {
	wantAll(t, api.OK, "BEGIN END", " BEGIN END", "\nBEGIN\n\nEND\n", "VAR a: INT; BEGIN END", "IN a: INT; OUT b: INT; VAR c: INT; IN d: INT; BEGIN END",
		"OUT a:INT;BEGIN a:=1;END", "OUT a\n:\nINT\n;\nBEGIN\na\n:=\n1\n;\nEND")
	wantAll(t, api.ErrText, "", "BEGIN", "END", "END BEGIN", "BEGIN END;", "BEGIN END END", "BEGIN BEGIN END", "BEGIN END BEGIN END",
		"BEGIN END x", "BEGIN END 1", "BEGIN; END",
		"BEGIN ; END", "BEGIN VAR a: INT; END", "BEGIN END VAR a: INT;", "VAR a: INT;", "VAR a: INT; END", "a: INT; BEGIN END", "VAR a: INT; b: INT; BEGIN END",
		"VAR BEGIN END", "VAR a; BEGIN END", "VAR a: ; BEGIN END", "VAR a INT; BEGIN END", "VAR a: INT BEGIN END", "VAR a: INT, BEGIN END",
		"VAR : INT; BEGIN END", "VAR a := INT; BEGIN END",
		"VAR a, b: INT; BEGIN END", "VAR a: INT;; BEGIN END", "VAR VAR a: INT; BEGIN END", "VAR 1: INT; BEGIN END", "VAR INT: INT; BEGIN END", "VAR a: a; BEGIN END",
		"VAR a: 1; BEGIN END", "INOUT a: INT; BEGIN END", "BEGIN\x00END", "BEGIN END\x00")
}

func TestTypesInText(t *testing.T) {
	for _, kind := range []string{"BOOL", "INT", "DINT"} {
		for _, role := range []string{"IN", "OUT", "VAR"} {
			wantAll(t, api.OK, role+" a: "+kind+"; BEGIN END", role+" a: ARRAY 3 OF "+kind+"; BEGIN END", role+" a:ARRAY 3OF "+kind+";BEGIN END")
		}
	}
	wantAll(t, api.OK, "VAR a: TIMER; BEGIN END")
	for _, kind := range []string{"ARRAY 3 OF TIMER", "ARRAY 3 OF ARRAY 3 OF INT", "ARRAY OF INT", "ARRAY 3 INT", "ARRAY 3 OF", "ARRAY 3", "ARRAY", "ARRAY -3 OF INT",
		"ARRAY n OF INT", "ARRAY (3 + 1) OF INT", "ARRAY [3] OF INT", "ARRAY 3 3 OF INT", "ARRAY3 OF INT", "ARRAY 3 OFINT", "3 OF INT", "INT INT",
		"int", "Int", "INT16", "REAL", "TRUE"} {
		wantAll(t, api.ErrText, "VAR a: "+kind+"; BEGIN END", "VAR n: INT; OUT a: "+kind+"; BEGIN END")
	}
}

func TestNamesInText(t *testing.T) {
	for _, name := range []string{"a", "z", "a1", "a_", "a_1", "a__b", "abcdefghijkl", "a12345678901", "begin", "in", "true", "mod", "t1to", "a0123456789_"} {
		wantAll(t, api.OK, "OUT "+name+": INT; BEGIN "+name+" := ("+name+" + 1); END")
	}
	for _, name := range []string{"A", "aB", "Ab", "a_B", "abcdefghijklm", "a123456789012", "_a", "_", "1a", "1", "a-b", "a.b", "a b", "\xe4",
		"a\xc3\xa4", "\xc3\xa4", "a\x00", "a$", "a'", "A1", "BEGIN", "IN", "TRUE", "TON", "OF", "aTO"} {
		wantAll(t, api.ErrText, "OUT "+name+": INT; BEGIN END", "OUT a: INT; BEGIN "+name+" := 1; END",
			"VAR a: INT; BEGIN FOR "+name+" := 1 TO 2 DO END; END", "VAR a: TIMER; OUT b: BOOL; BEGIN b := TON("+name+", b, 1); END")
	}
	// Too long is no name at all, declared or not.
	wantAll(t, api.ErrText, "OUT a: INT; BEGIN a := abcdefghijklm; END", "VAR abcdefghijklm: INT; BEGIN FOR abcdefghijklm := 1 TO 2 DO END; END")
}

func TestBlanks(t *testing.T) {
	good := "IN a: INT; OUT b: BOOL; VAR i: INT; VAR l: ARRAY 2 OF INT; BEGIN b := (l[a] < -1); FOR i := 1 TO 2 DO END; END"
	for _, blank := range []string{" ", "\n", "  ", "\n\n", " \n "} {
		wantAll(t, api.OK, strings.ReplaceAll(good, " ", blank), blank+good, good+blank)
	}
	for _, c := range []string{"\t", "\r", "\v", "\f", "\x00", "\xa0", "\xc2\xa0", "\u2003", "\u0085", "\x1f", "\x7f"} {
		wantAll(t, api.ErrText, strings.ReplaceAll(good, " ", c), c+good, good+c, strings.Replace(good, "; ", ";"+c, 1), strings.Replace(good, "; ", "; "+c, 1))
	}
	// Where parts would be one, a blank must stand.
	wantAll(t, api.ErrText, "BEGINEND", "VARa: INT; BEGIN END", "VAR a: INT;BEGINEND", "VAR l: ARRAY3 OF INT; BEGIN END", "VAR l: ARRAY 3 OFINT; BEGIN END")
	wantAll(t, api.ErrText,
		with("IFb THEN END;", "IF bTHEN END;", "FORi := 1 TO 2 DO END;", "FOR i := 1 TO2 DO END;", "FOR i := 1 TO 2 DOEND;", "CASE nOF END;", "CASE n OFEND;",
			"CASE n OF WHEN1: END;", "o := NOTb;", "p := SHORTw;", "p := (n MODn);", "p := (nMOD n);", "p := (nMOD1);", "o := (bANDb);",
			"o := (b ANDb);", "IF b THENEND;", "IF b THEN ELSEEND;")...)
	// Behind a number none need: it ends where its digits end.
	wantAll(t, api.OK, with("FOR i := 1TO 2DO END;", "CASE 1OF WHEN 1:END;", "p := (1MOD 2);", "p:=(1MOD-2);", "IF(1<2)THEN END;",
		"o:=NOT(b AND b);", "l[0]:=l[1];", "o:=TON(t,b,1);", "p:=-1;", "o:=(b=b);")...)
	// What is one sign, word or number does not stand apart.
	wantAll(t, api.ErrText, with("o : = b;", "p := 1 2;", "o := T RUE;", "o := N OT b;", "p := (n M OD n);", "p := - - 1;", "l l[0] := 1;")...)
	wantAll(t, api.OK, with("p := - 1;", "p := -\n1;", "l [ 0 ] := 1;", "o := TON ( t , b , 1 ) ;", "p := (n--1);", "p := (n - -1);", "p := (-1--1);", "p := (n-1);")...)
}

func TestStatementsInText(t *testing.T) {
	wantAll(t, api.OK, with("", "o := b;", "o := b; o := b;", "l[0] := 1;", "IF b THEN END;", "IF b THEN o := b; END;", "IF b THEN ELSE END;",
		"IF b THEN o := b; ELSE o := b; o := b; END;",
		"CASE n OF END;", "CASE n OF WHEN 1: END;", "CASE n OF WHEN -1, - 2, 3: o := b; WHEN 4: ELSE o := b; END;", "CASE n OF ELSE END;",
		"FOR i := 1 TO 2 DO END;", "FOR i := -1 TO -2 DO o := b; o := b; END;")...)
	wantAll(t, api.ErrText, with("o := b", ";", "o := b;;", "o", "o;", "o :=;", ":= b;", "o = b;", "o : b;", "o := b := b;", "b;", "1 := b;",
		"TRUE := b;", "(o) := b;", "NOT o := b;", "l[0];", "l[] := 1;", "l[0 := 1;", "l0] := 1;",
		"l[0][0] := 1;", "l(0) := 1;", "l[0, 1] := 1;", "IF b THEN o := b END;", "IF b o := b; END;", "IF THEN END;", "IF b THEN END", "IF b THEN",
		"IF b END;", "IF b THEN ELSE ELSE END;",
		"IF b THEN ELSE;", "ELSE END;", "IF b THEN END END;", "IF b ELSE END;", "IF b THEN; END;", "IF o := b THEN END;", "if b THEN END;",
		"IF b, b THEN END;", "IF b THEN ELSE o := b END;",
		"CASE OF END;", "CASE n END;", "CASE n OF;", "CASE n OF WHEN: END;", "CASE n OF WHEN 1 END;", "CASE n OF WHEN 1; END;",
		"CASE n OF WHEN 1,: END;", "CASE n OF WHEN ,1: END;", "CASE n OF WHEN 1 2: END;",
		"CASE n OF WHEN n: END;", "CASE n OF WHEN (1 + 1): END;", "CASE n OF WHEN TRUE: END;", "CASE n OF WHEN --1: END;", "CASE n OF 1: END;",
		"CASE n OF o := b; END;", "CASE n OF ELSE WHEN 1: END;", "CASE n OF ELSE ELSE END;",
		"CASE n OF WHEN 1: o := b END;", "CASE n OF WHEN 1: WHEN 2: END", "WHEN 1: END;", "CASE n WHEN 1: END;", "CASE n OF WHEN 1:= END;",
		"CASE n OF WHEN 1, WHEN 2: END;", "CASE n OF WHEN - : END;",
		"FOR i := 1 TO 2 END;", "FOR i := 1 TO 2 DO", "FOR i := 1 TO 2 DO;", "FOR i := 1 DO END;", "FOR i TO 2 DO END;", "FOR i := TO 2 DO END;",
		"FOR i := 1 TO DO END;", "FOR := 1 TO 2 DO END;", "FOR 1 := 1 TO 2 DO END;",
		"FOR i = 1 TO 2 DO END;", "FOR i : 1 TO 2 DO END;", "FOR l[0] := 1 TO 2 DO END;", "FOR i := n TO 2 DO END;", "FOR i := 1 TO n DO END;",
		"FOR i := (1 + 1) TO 2 DO END;", "FOR i := 1 TO SHORT 2 DO END;", "FOR i := 1 TO 2 DO ELSE END;",
		"FOR i := 1, 2 DO END;", "FOR i := 1 TO 2 DO o := b END;", "FOR i := 1 TO 2 DO END", "FOR i := 1 TO --2 DO END;",
		"FOR TRUE := 1 TO 2 DO END;", "FOR i := 1 TO 2 THEN END;", "DO END;", "TON(t, b, 1);", "THEN;")...)
}

func TestExpressionsInText(t *testing.T) {
	wantAll(t, api.OK, setting("TRUE", "FALSE", "b", "m[1]", "m[(n - n)]", "NOT b", "NOT NOT b", "(b AND b)", "(b OR NOT b)", "(n = n)",
		"(n < 1)", "TON(t, b, 1)", "NOT TON(t, NOT b, (1 + 1))", "((1 + 2) = (3 - 4))", "((1 * 2) < (3 / 4))",
		"((1 MOD 2) = 0)", "(SHORT w = SHORT 1)", "(-1 = - 1)", "(SHORT SHORT -1 = 007)")...)
	wantAll(t, api.ErrText, setting("", "()", "(b)", "(1)", "b AND b", "(b AND b AND b)", "(AND b)", "(b AND)", "(b b)", "(b AND b", "b AND b)",
		"((b AND b))", "(b & b)", "(b and b)", "(b XOR b)", "(n > 1)", "(n <= 1)", "(n == 1)", "(n := 1)", "(n <> 1)", "(n % 1)", "(n ^ 1)",
		"(n ! 1)", "!b", "[b AND b]", "{b}",
		"(b NOT b)", "NOT", "NOT AND b", "(NOT)", "NOT(b)", "SHORT", "SHORT(w)", "-b", "-(1 + 1)", "+1", "--1", "- -1", "-", "-TRUE", "-n", "1.5",
		"1,5", "1e5", "0x1", "1_0", "'1'", "\"1\"", "true1 TRUE", "TRUE FALSE", "True",
		"TON", "TON b", "TON()", "TON(t)", "TON(t, b)", "TON(t, b, 1, 1)", "TON(t b, 1)", "TON(t, b 1)", "TON(t; b, 1)", "TON(t, b; 1)",
		"TON[t, b, 1]", "TON(t, b, 1", "TON t, b, 1)", "TON(m[0], b, 1)", "TON(1, b, 1)", "TON(TRUE, b, 1)", "TON((t), b, 1)", "TON(, b, 1)",
		"TON(t,, 1)", "TON(t, b,)",
		"m[", "m]", "m[]", "m[1", "m[1]]", "m[1][1]", "m[1, 1]", "m(1)", "m{1}", "TRUE[1]", "1[1]", "(m)[1]", "IF", "END", "(b = b) = b", "BOOL",
		"(1 +- )", "(n MOD MOD n)", "(n + * n)")...)
}

// around is what stands around an inside. Each is of a sort: "b" a BOOL, "n" a
// number, "s" statements.
type around struct{ takes, gives, before, behind string }

var deeper = []around{
	{"b", "b", "NOT ", ""}, {"b", "b", "(", "=TRUE)"}, {"b", "b", "(TRUE OR ", ")"}, {"b", "b", "TON(t,", ",1)"},
	{"n", "b", "TON(t,TRUE,", ")"}, {"n", "b", "(1<", ")"}, {"n", "b", "m[", "]"},
	{"n", "n", "SHORT ", ""}, {"n", "n", "l[", "]"}, {"n", "n", "(", "+1)"}, {"n", "n", "(1 MOD ", ")"},
	{"b", "s", "IF ", " THEN END;"}, {"s", "s", "IF f THEN ", "END;"}, {"s", "s", "IF f THEN ELSE ", "END;"}, {"s", "s", "IF f THEN f:=f;", "f:=f;END;"},
	{"n", "s", "CASE ", " OF END;"}, {"s", "s", "CASE 1 OF WHEN 1:", "END;"}, {"s", "s", "CASE 1 OF WHEN 1:WHEN 2:", "WHEN 3:END;"},
	{"s", "s", "CASE 1 OF ELSE ", "END;"},
	{"s", "s", "FOR i:=1 TO 1 DO ", "END;"}, {"s", "s", "FOR i:=1 TO 0 DO ", "END;"}, {"n", "s", "l[", "]:=1;"},
}

var noDeeper = []around{
	{"b", "s", "f:=", ";"}, {"n", "s", "l[0]:=", ";"}, {"n", "s", "j:=", ";"}, {"s", "s", "f:=NOT TRUE;", ""}, {"s", "s", "", "IF f THEN END;"},
	{"s", "s", "j:=l[0];", "l[0]:=-1;"},
}

func inside(sort string, deep int) string {
	switch sort {
	case "b":
		return strings.Repeat("NOT ", deep) + "TRUE"
	case "n":
		return strings.Repeat("SHORT ", deep) + "1"
	}
	return strings.Repeat("IF f THEN ", deep) + strings.Repeat("END;", deep)
}

func statement(a around, deep int) string {
	text := a.before + inside(a.takes, deep) + a.behind
	switch a.gives {
	case "b":
		return "f:=" + text + ";"
	case "n":
		return "j:=" + text + ";"
	}
	return text
}

func nested(outside int, a around, deep int) string {
	return "VAR f:BOOL;VAR j:DINT;VAR i:INT;VAR t:TIMER;VAR m:ARRAY 2 OF BOOL;VAR l:ARRAY 2 OF INT;BEGIN " +
		strings.Repeat("IF f THEN ", outside) + statement(a, deep) + strings.Repeat("END;", outside) + "END"
}

func TestDepth(t *testing.T) {
	for _, a := range deeper {
		wantAll(t, api.OK, nested(0, a, 0), nested(9, a, 0), nested(0, a, 9), nested(4, a, 5))
		wantAll(t, api.ErrText, nested(10, a, 0), nested(0, a, 10), nested(5, a, 5), nested(9, a, 9))
	}
	for _, a := range noDeeper {
		wantAll(t, api.OK, nested(9, a, 1), nested(0, a, 10), nested(5, a, 5))
		wantAll(t, api.ErrText, nested(10, a, 1), nested(0, a, 11), nested(5, a, 6))
	}
	wantAll(t, api.OK, inOneAnother(10, "FOR i# := 1 TO 1 DO ", "END;"), inOneAnother(10, "CASE 1 OF WHEN 1: ", "END;"))
	wantAll(t, api.ErrText, inOneAnother(11, "FOR i# := 1 TO 1 DO ", "END;"), inOneAnother(11, "CASE 1 OF WHEN 1: ", "END;"))
	// Beside one another is not in one another.
	for _, a := range deeper {
		wantAll(t, api.OK, strings.ReplaceAll(nested(0, a, 0), "BEGIN ", "BEGIN "+strings.Repeat(statement(a, 0), 11)))
	}
	wantAll(t, api.OK, "OUT a: BOOL; BEGIN "+strings.Repeat("a := NOT a; IF a THEN END; ", 20)+"END",
		with("o := (((((b OR b) OR (b OR b)) OR ((b OR b) OR (b OR b))) OR b) OR (b OR (b OR (b OR b))));")[0])
	// All brackets that can stand in one another, on both sides.
	wantAll(t, api.OK, with("p := "+strings.Repeat("(1+", 10)+"1"+strings.Repeat(")", 10)+";",
		"p := "+strings.Repeat("(", 10)+"1"+strings.Repeat("+1)", 10)+";",
		"l["+strings.Repeat("(1+", 9)+"1"+strings.Repeat(")", 9)+"] := "+strings.Repeat("(1+", 10)+"1"+strings.Repeat(")", 10)+";")...)
}

func inOneAnother(n int, before, behind string) string {
	names, text := "", ""
	for i := range n {
		names += "VAR i" + strconv.Itoa(i) + ": INT; "
		text += strings.ReplaceAll(before, "#", strconv.Itoa(i))
	}
	return names + "BEGIN " + text + strings.Repeat(behind, n) + "END"
}

func TestLengthOfText(t *testing.T) {
	for _, text := range []string{"BEGIN END", "OUT a: INT; BEGIN a := 1; END", declares + "BEGIN o := b; END"} {
		short := api.MaxText - len(text)
		wantAll(t, api.OK, text+strings.Repeat(" ", short), strings.Repeat("\n", short)+text)
		wantAll(t, api.ErrText, text+strings.Repeat(" ", short+1), strings.Repeat("\n", short+1)+text)
	}
	zeros := "OUT a: INT; BEGIN a := 1; END"
	fill := strings.Repeat("0", api.MaxText-len(zeros))
	wantAll(t, api.OK, strings.Replace(zeros, "1", fill+"1", 1))
	wantAll(t, api.ErrText, strings.Replace(zeros, "1", fill+"01", 1))
	// The dearest text in bytes of code: a CASE with as many literals as there is room for.
	begin, end := "VAR i:INT;BEGIN CASE i OF WHEN 1", ":END;END"
	many := strings.Repeat(",1", (api.MaxText-len(begin)-len(end))/2)
	wantAll(t, api.OK, begin+many+end)
}
