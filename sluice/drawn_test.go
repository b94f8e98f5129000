package sluice_test

import (
	"regexp"
	"slices"
	"strconv"
	"strings"
	"testing"

	"sluice/api"
)

// drawer draws texts by a fixed rule: mostly of the right types, now and then
// not.
type drawer struct {
	state  uint64
	parts  []string
	names  map[string][]string // by kind; of arrays behind "[", of what may be set behind ":=", of FORs behind "FOR"
	loops  []string
	faults int // one of so many choices is a wrong one
}

func (d *drawer) upTo(n int) int {
	d.state ^= d.state << 13
	d.state ^= d.state >> 7
	d.state ^= d.state << 17
	return int(d.state >> 11 % uint64(n))
}

func pick[T any](d *drawer, list ...T) T { return list[d.upTo(len(list))] }

func (d *drawer) slip() bool { return d.upTo(d.faults) == 0 }

func (d *drawer) say(parts ...string) { d.parts = append(d.parts, parts...) }

// note keeps a name by all that it may be used as.
func (d *drawer) note(name string, as ...string) {
	for _, use := range as {
		d.names[use] = append(d.names[use], name)
	}
}

func (d *drawer) anyName(use string) (string, bool) {
	if d.slip() {
		return pick(d, "zz", "a0", "a1", "a2", "a3"), true
	}
	if len(d.names[use]) == 0 {
		return "", false
	}
	return pick(d, d.names[use]...), true
}

func (d *drawer) program() {
	d.names = map[string][]string{}
	for i := range 3 + d.upTo(7) {
		d.declare("a" + strconv.Itoa(i))
	}
	if d.upTo(60) == 0 {
		for i := range 4 {
			d.say("VAR", "b"+strconv.Itoa(i), ":", "ARRAY", pick(d, "16", "11", "8"), "OF", "INT", ";")
		}
	}
	d.say("BEGIN")
	d.stmts(1+d.upTo(6), 3)
	d.say("END")
}

func (d *drawer) declare(name string) {
	if d.slip() {
		name = "a0"
	}
	role, kind := pick(d, "IN", "OUT", "VAR", "VAR"), pick(d, "BOOL", "INT", "DINT")
	d.say(role, name, ":")
	switch {
	case (role == "VAR" || d.slip()) && d.upTo(4) == 0:
		d.say("TIMER")
		d.note(name, "TIMER")
	case d.upTo(3) == 0:
		d.say("ARRAY", d.length(), "OF", kind)
		d.note(name, "["+kind)
		if role != "IN" || d.slip() {
			d.note(name, ":=["+kind)
		}
	default:
		d.say(kind)
		d.note(name, kind)
		if role != "IN" || d.slip() {
			d.note(name, ":="+kind)
		}
		if role == "VAR" && kind != "BOOL" || d.slip() {
			d.note(name, "FOR"+kind)
		}
	}
	d.say(";")
}

func (d *drawer) length() string {
	if d.slip() {
		return pick(d, "0", "17", "16", "65537", "99999999999999999999")
	}
	return pick(d, "1", "2", "3", "4", "04")
}

func (d *drawer) stmts(n, deep int) {
	for range n {
		d.stmt(deep)
		d.say(";")
	}
}

func (d *drawer) stmt(deep int) {
	choice := d.upTo(9)
	if deep == 0 {
		choice = 0
	}
	switch choice {
	case 5, 6:
		d.say("IF")
		d.expr("BOOL", 2)
		d.say("THEN")
		d.stmts(d.upTo(3), deep-1)
		d.otherwise(deep)
	case 7:
		d.say("CASE")
		d.expr(pick(d, "INT", "DINT"), 2)
		d.say("OF")
		for range d.upTo(4) {
			d.when(deep)
		}
		d.otherwise(deep)
	case 8:
		d.loop(deep)
	default:
		d.set()
	}
}

func (d *drawer) otherwise(deep int) {
	if d.upTo(2) == 0 {
		d.say("ELSE")
		d.stmts(d.upTo(3), deep-1)
	}
	d.say("END")
}

func (d *drawer) when(deep int) {
	d.say("WHEN")
	d.literal(pick(d, "INT", "small", "small", "DINT"))
	for range d.upTo(3) {
		d.say(",")
		d.literal("small")
	}
	d.say(":")
	d.stmts(d.upTo(3), deep-1)
}

func (d *drawer) loop(deep int) {
	kind := pick(d, "INT", "DINT")
	name, found := d.anyName("FOR" + kind)
	if !found || slices.Contains(d.loops, name) && !d.slip() {
		d.set()
		return
	}
	d.say("FOR", name, ":=")
	first := pick(d, -2, -1, 0, 0, 1, 5, 32765, -32768)
	last := first + d.upTo(8) - 2
	if d.upTo(12) == 0 {
		last = first + pick(d, 100, 1000, 4000, 70000)
	}
	d.number(first)
	d.say("TO")
	d.number(last)
	d.say("DO")
	d.loops = append(d.loops, name)
	d.stmts(d.upTo(3), deep-1)
	d.loops = d.loops[:len(d.loops)-1]
	d.say("END")
}

func (d *drawer) set() {
	kind := pick(d, "BOOL", "INT", "INT", "DINT", "DINT")
	if name, found := d.anyName(":=[" + kind); found && d.upTo(2) == 0 {
		d.say(name, "[")
		d.index()
		d.say("]", ":=")
		d.expr(kind, 3)
		return
	}
	name, found := d.anyName(":=" + kind)
	if !found || slices.Contains(d.loops, name) && !d.slip() {
		d.say("IF")
		d.expr("BOOL", 2)
		d.say("THEN", "END")
		return
	}
	d.say(name, ":=")
	d.expr(kind, 3)
}

// index is mostly one that an array may have.
func (d *drawer) index() {
	switch d.upTo(6) {
	case 0:
		d.expr(pick(d, "INT", "DINT"), 2)
	case 1:
		d.say("(")
		d.expr("INT", 1)
		d.say("MOD", pick(d, "2", "3"), ")")
	case 2:
		d.say(pick(d, "2", "3"))
	default:
		d.say(pick(d, "0", "0", "1"))
	}
}

func (d *drawer) number(n int) {
	if n < 0 {
		d.say("-", strconv.Itoa(-n))
	} else {
		d.say(strconv.Itoa(n))
	}
}

func (d *drawer) literal(kind string) {
	switch {
	case d.slip():
		d.say(pick(d, "2147483648", "99999999999", "32768"))
	case kind == "DINT" && d.upTo(2) == 0:
		d.number(pick(d, 32768, 65535, 70000, 2147483647, -32769, -2147483648))
	case kind != "small" && d.upTo(3) == 0:
		d.number(pick(d, 32767, 256, 300, -32768, 1000))
	default:
		d.number(d.upTo(7) - 2)
	}
}

func (d *drawer) expr(kind string, deep int) {
	if d.slip() {
		kind = pick(d, "BOOL", "INT", "DINT", "TIMER")
	}
	if d.upTo(400) == 0 {
		deep = 11
	}
	if kind == "DINT" && d.upTo(4) == 0 {
		kind = "INT"
	}
	if deep <= 0 || d.upTo(4) == 0 {
		d.leaf(kind)
		return
	}
	if name, found := d.anyName("[" + kind); found && d.upTo(4) == 0 {
		d.say(name, "[")
		d.index()
		d.say("]")
		return
	}
	if kind == "BOOL" {
		d.truth(deep)
	} else {
		d.reckoned(kind, deep)
	}
}

func (d *drawer) leaf(kind string) {
	name, found := d.anyName(kind)
	switch {
	case found && d.upTo(3) > 0:
		d.say(name)
	case kind == "BOOL":
		d.say(pick(d, "TRUE", "FALSE"))
	default:
		d.literal(kind)
	}
}

func (d *drawer) two(left, op, right string, deep int) {
	d.say("(")
	d.expr(left, deep-1)
	d.say(op)
	d.expr(right, deep-1)
	d.say(")")
}

func (d *drawer) truth(deep int) {
	timer, found := d.anyName("TIMER")
	switch choice := d.upTo(6); {
	case choice == 0 && found:
		d.say("TON", "(", timer, ",")
		d.expr("BOOL", deep-1)
		d.say(",")
		d.expr(pick(d, "INT", "DINT"), deep-1)
		d.say(")")
	case choice == 1:
		d.say("NOT")
		d.expr("BOOL", deep-1)
	case choice == 2:
		d.two("BOOL", pick(d, "AND", "OR", "="), "BOOL", deep)
	default:
		d.two(pick(d, "INT", "DINT"), pick(d, "=", "<", "<"), pick(d, "INT", "DINT"), deep)
	}
}

func (d *drawer) reckoned(kind string, deep int) {
	op := pick(d, "+", "-", "*", "+", "-", "*", "/", "MOD")
	switch {
	case kind == "DINT":
		d.two(pick(d, "INT", "DINT"), op, pick(d, "INT", "DINT"), deep)
	case d.upTo(4) == 0:
		d.say("SHORT")
		d.expr("DINT", deep-1)
	default:
		d.two("INT", op, "INT", deep)
	}
}

// laidOut puts blanks between the parts: where they must be, and elsewhere now
// and then.
func (d *drawer) laidOut() string {
	text := ""
	for i, part := range d.parts {
		if i > 0 && (wouldBeOne(d.parts[i-1], part) || d.upTo(3) == 0) {
			text += pick(d, " ", " ", " ", "\n", "  ")
		}
		text += part
	}
	return text
}

func wouldBeOne(a, b string) bool {
	if numberForm.MatchString(a) {
		return numberForm.MatchString(b)
	}
	last, first := a[len(a)-1:], b[:1]
	return strings.ContainsAny(last, letters+"0123456789_") && strings.ContainsAny(first, letters+"0123456789")
}

const letters = "abcdefghijklmnopqrstuvwxyzABCDEFGHIJKLMNOPQRSTUVWXYZ"

// holdAgainst asks both compilers, and both machines for some scans. It answers
// what the text and the last scan ended with.
func holdAgainst(t *testing.T, d *drawer, text string) (api.Errno, api.Errno) {
	t.Helper()
	s, want := compileSecond(text)
	m, e := ask(t, text)
	if e != want {
		t.Fatalf("P5: Compile(%q): error %d, the second one has %d", text, e, want)
	}
	if e != api.OK {
		return e, api.OK
	}
	if cost := s.cost(s.root).Int64(); int64(m.Bound()) > 12*cost {
		t.Fatalf("P7: the image of %q has bound %d, cost %d", text, m.Bound(), cost)
	}
	for range 5 {
		inputs, delta := s.drawInputs(d), pick(d, 0, 1, 2, 3, 1000, 1000000)
		want, e = s.scan(inputs, delta), m.Scan(inputs, delta)
		if e != want || !slices.Equal(m.Outputs(), s.outputs()) {
			t.Fatalf("P6: %s: Scan(%d, %d): error %d and outputs %d, the second one has %d and %d", text, inputs, delta, e, m.Outputs(), want, s.outputs())
		}
		if m.Steps() > m.Bound() {
			t.Fatalf("P8: %s: Scan(%d, %d): %d steps, bound %d", text, inputs, delta, m.Steps(), m.Bound())
		}
	}
	return api.OK, want
}

func (s *second) drawInputs(d *drawer) []int {
	var list []int
	for _, thing := range s.order {
		for range thing.values {
			switch {
			case thing.role != "IN":
			case thing.kind == "BOOL":
				list = append(list, d.upTo(2))
			case thing.kind == "DINT" && d.upTo(3) == 0:
				list = append(list, pick(d, least, most, 32768, -32769, 65536))
			default:
				list = append(list, pick(d, 0, 0, 1, 1, 2, 3, -1, 7, 32767, -32768))
			}
		}
	}
	return list
}

// TestDrawnTexts also looks that all that may come out did.
func TestDrawnTexts(t *testing.T) {
	d := &drawer{state: 88172645463325252}
	compiled, ended := map[api.Errno]int{}, map[api.Errno]int{}
	for i := range 3000 {
		d.parts, d.loops, d.faults = nil, nil, 10000
		if i%2 == 0 {
			d.faults = 60
		}
		d.program()
		e, f := holdAgainst(t, d, d.laidOut())
		compiled[e]++
		ended[f]++
	}
	for _, e := range []api.Errno{api.OK, api.ErrText, api.ErrName, api.ErrType, api.ErrLimit} {
		if compiled[e] < 20 {
			t.Errorf("only %d drawn texts end with %d", compiled[e], e)
		}
	}
	for _, e := range []api.Errno{api.OK, api.ErrZero, api.ErrIndex} {
		if ended[e] < 20 {
			t.Errorf("only %d drawn texts' scans end with %d", ended[e], e)
		}
	}
}

// Texts in which parts or bytes are left out, put in, doubled or changed.
func TestChangedTexts(t *testing.T) {
	d := &drawer{state: 1442695040888963407}
	compiled := map[api.Errno]int{}
	for i := range 3000 {
		d.parts, d.loops, d.faults = nil, nil, 10000
		d.program()
		for range 1 + d.upTo(4)/3 {
			d.changePart()
		}
		text := d.laidOut()
		if i%4 == 0 {
			text = d.changeByte(text)
		}
		e, _ := holdAgainst(t, d, text)
		compiled[e]++
	}
	for _, e := range []api.Errno{api.OK, api.ErrText, api.ErrName, api.ErrType} {
		if compiled[e] < 20 {
			t.Errorf("only %d changed texts end with %d", compiled[e], e)
		}
	}
}

var (
	signForm = regexp.MustCompile(`^([-+*/=<]|MOD|AND|OR)$`)
	wordForm = regexp.MustCompile(`^(IN|OUT|VAR|BOOL|INT|DINT|NOT|SHORT|TRUE|FALSE)$`)
)

func (d *drawer) changePart() {
	i, j := d.upTo(len(d.parts)), d.upTo(len(d.parts))
	switch d.upTo(8) {
	case 0:
		d.parts = slices.Delete(d.parts, i, i+1)
	case 1:
		d.parts = slices.Insert(d.parts, i, d.parts[j])
	case 2:
		d.parts[i], d.parts[j] = d.parts[j], d.parts[i]
	case 3, 4, 5, 6:
		// One of the same sort, so that more than the grammar is asked for.
		for _, form := range []*regexp.Regexp{nameForm, numberForm, signForm, wordForm} {
			if form.MatchString(d.parts[i]) && form.MatchString(d.parts[j]) {
				d.parts[i] = d.parts[j]
			}
		}
	default:
		d.parts[i] = pick(d, "(", ")", "[", "]", ":", ":=", ";", ",", "-", "+", "*", "/", "=", "<", "MOD", "AND", "OR", "NOT", "SHORT", "TON",
			"TRUE", "FALSE", "IF", "THEN", "ELSE", "END", "CASE", "OF", "WHEN", "FOR", "TO", "DO",
			"IN", "OUT", "VAR", "BOOL", "INT", "DINT", "TIMER", "ARRAY", "BEGIN", "0", "1", "7", "40000", "a0", "a1", "a2", "abcdefghijkl",
			"abcdefghijklm", "aB", "Begin")
	}
}

func (d *drawer) changeByte(text string) string {
	i := d.upTo(len(text))
	c := pick(d, " ", "\n", "\t", "0", "9", "a", "z", "A", "Z", "_", ":", "=", ";", "-", "(", ")", "\x00", "\xff", "\xc3\xa4", "{", "@", "`", "/")
	switch d.upTo(3) {
	case 0:
		return text[:i] + text[i+1:]
	case 1:
		return text[:i] + c + text[i:]
	}
	return text[:i] + c + text[i+1:]
}
