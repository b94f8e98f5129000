package sluice_test

import (
	"math/big"
	"slices"

	"sluice/api"
)

// A second compiler and machine in one: it checks and does texts as the second
// reading gives them, without any image. A fault is a panic with its error.

type thing struct {
	role, kind string
	array      bool
	length     *big.Int
	values     []int64
}

type second struct {
	root   *node
	things map[string]*thing
	order  []*thing
	loops  []string
	delta  int64
	over   api.Errno
}

func caught(f func()) (e api.Errno) {
	defer func() {
		if r := recover(); r != nil {
			e = r.(api.Errno)
		}
	}()
	f()
	return api.OK
}

func must(ok bool, e api.Errno) {
	if !ok {
		panic(e)
	}
}

func compileSecond(text string) (*second, api.Errno) {
	s := &second{things: map[string]*thing{}}
	e := caught(func() {
		must(len(text) <= 700, api.ErrText)
		s.root = readText(text)
		must(s.root != nil && s.root.depth() <= 10, api.ErrText)
		s.declare()
		s.known(s.root.of("stmts")[0])
		s.typed()
		s.limited()
	})
	return s, e
}

func (s *second) declare() {
	kids := s.root.kids
	for ; kids[0].text != "BEGIN"; kids = kids[5:] {
		d := &thing{role: kids[0].text, length: big.NewInt(1)}
		words := kids[3].kids
		if words[0].text == "ARRAY" {
			d.array = true
			d.length.SetString(words[1].text, 10)
		}
		d.kind = words[len(words)-1].text
		must(s.things[kids[1].text] == nil, api.ErrName)
		s.things[kids[1].text] = d
		s.order = append(s.order, d)
	}
}

func (s *second) known(n *node) {
	must(n.rule != "name" || s.things[n.text] != nil, api.ErrName)
	for _, k := range n.kids {
		s.known(k)
	}
}

func (s *second) typed() {
	for _, d := range s.order {
		must(d.kind != "TIMER" || d.role == "VAR", api.ErrType)
		must(d.length.Cmp(big.NewInt(1)) >= 0 && d.length.Cmp(big.NewInt(16)) <= 0, api.ErrType)
		d.values = make([]int64, d.length.Int64())
	}
	s.check(s.root.of("stmts")[0])
}

func (s *second) limited() {
	cells := 0
	for _, d := range s.order {
		cells += len(d.values)
	}
	must(cells <= 60, api.ErrLimit)
	must(s.cost(s.root).Cmp(big.NewInt(4000)) <= 0, api.ErrLimit)
}

func bigOf(literal *node) *big.Int {
	n, _ := new(big.Int).SetString(literal.kids[len(literal.kids)-1].text, 10)
	if len(literal.kids) > 1 {
		n.Neg(n)
	}
	return n
}

func within(n *big.Int, kind string) bool {
	bits := uint(31)
	if kind == "INT" {
		bits = 15
	}
	top := new(big.Int).Lsh(big.NewInt(1), bits)
	return n.Cmp(top) < 0 && n.Cmp(new(big.Int).Neg(top)) >= 0
}

func number(kind string) bool { return kind == "INT" || kind == "DINT" }

// kind is that of an expression, a place or a literal.
func (s *second) kind(n *node) string {
	switch n.rule {
	case "literal":
		if within(bigOf(n), "INT") {
			return "INT"
		}
		must(within(bigOf(n), "DINT"), api.ErrType)
		return "DINT"
	case "place":
		d := s.things[n.kids[0].text]
		must(d.array == (len(n.kids) > 1), api.ErrType)
		must(!d.array || number(s.kind(n.kids[2])), api.ErrType)
		return d.kind
	}
	parts := n.of("expr")
	switch n.kids[0].text {
	case "TRUE", "FALSE":
		return "BOOL"
	case "NOT":
		must(s.kind(parts[0]) == "BOOL", api.ErrType)
		return "BOOL"
	case "SHORT":
		must(number(s.kind(parts[0])), api.ErrType)
		return "INT"
	case "TON":
		must(s.things[n.kids[2].text].kind == "TIMER" && s.kind(parts[0]) == "BOOL" && number(s.kind(parts[1])), api.ErrType)
		return "BOOL"
	case "(":
		return kindOfTwo(n.of("op")[0].kids[0].text, s.kind(parts[0]), s.kind(parts[1]))
	}
	return s.kind(n.kids[0])
}

func kindOfTwo(op, a, b string) string {
	switch {
	case slices.Contains([]string{"+", "-", "*", "/", "MOD"}, op):
		must(number(a) && number(b), api.ErrType)
		if a == "INT" && b == "INT" {
			return "INT"
		}
		return "DINT"
	case op == "=":
		must(a == "BOOL" && b == "BOOL" || number(a) && number(b), api.ErrType)
	case op == "<":
		must(number(a) && number(b), api.ErrType)
	default:
		must(a == "BOOL" && b == "BOOL", api.ErrType)
	}
	return "BOOL"
}

// check is of statements, or of one.
func (s *second) check(n *node) {
	if n.rule == "stmts" {
		for _, k := range n.of("stmt") {
			s.check(k)
		}
		return
	}
	switch n.kids[0].text {
	case "":
		place := n.kids[0]
		to, from := s.kind(place), s.kind(n.kids[2])
		name := place.kids[0].text
		must(to != "TIMER" && s.things[name].role != "IN" && !slices.Contains(s.loops, name), api.ErrType)
		must(from == to || from == "INT" && to == "DINT", api.ErrType)
		return
	case "IF":
		must(s.kind(n.kids[1]) == "BOOL", api.ErrType)
	case "CASE":
		must(number(s.kind(n.kids[1])), api.ErrType)
		for _, l := range n.of("literal") {
			s.kind(l)
		}
	case "FOR":
		d := s.things[n.kids[1].text]
		must(d.role == "VAR" && number(d.kind) && !d.array && !slices.Contains(s.loops, n.kids[1].text), api.ErrType)
		for _, l := range n.of("literal") {
			must(within(bigOf(l), d.kind), api.ErrType)
		}
		defer func(before []string) { s.loops = before }(s.loops)
		s.loops = append(slices.Clone(s.loops), n.kids[1].text)
	}
	for _, k := range n.of("stmts") {
		s.check(k)
	}
}

func rounds(n *node) *big.Int {
	ends := n.of("literal")
	count := new(big.Int).Sub(bigOf(ends[1]), bigOf(ends[0]))
	count.Add(count, big.NewInt(1))
	if count.Sign() < 0 {
		return new(big.Int)
	}
	return count
}

// cost is that of anything that has one.
func (s *second) cost(n *node) *big.Int {
	sum := big.NewInt(1)
	switch n.rule {
	case "stmts":
		sum.SetInt64(0)
	case "expr":
		if len(n.kids) == 1 && n.kids[0].rule != "" {
			return s.cost(n.kids[0])
		}
	case "stmt":
		switch n.kids[0].text {
		case "":
			return sum.Add(s.cost(n.kids[0]), s.cost(n.kids[2]))
		case "FOR":
			body := s.cost(n.of("stmts")[0])
			return sum.Add(sum, body.Mul(body.Add(body, big.NewInt(1)), rounds(n)))
		case "IF", "CASE":
			dearest := new(big.Int)
			for _, k := range n.of("stmts") {
				if c := s.cost(k); c.Cmp(dearest) > 0 {
					dearest = c
				}
			}
			sum.Add(sum, big.NewInt(int64(len(n.of("literal")))))
			return sum.Add(sum, dearest.Add(dearest, s.cost(n.kids[1])))
		}
	}
	for _, k := range n.kids {
		if k.rule == "expr" || k.rule == "stmt" || k.rule == "stmts" {
			sum.Add(sum, s.cost(k))
		}
	}
	return sum
}

func wrapped(n int64, kind string) int64 {
	half := int64(1) << 31
	if kind == "INT" {
		half = 1 << 15
	}
	n = (n + half) % (2 * half)
	if n < 0 {
		n += 2 * half
	}
	return n - half
}

func flag(b bool) int64 {
	if b {
		return 1
	}
	return 0
}

// value works out an expression, a place or a literal.
func (s *second) value(n *node) int64 {
	switch n.rule {
	case "literal":
		return bigOf(n).Int64()
	case "place":
		d := s.things[n.kids[0].text]
		if !d.array {
			return d.values[0]
		}
		i := s.value(n.kids[2])
		must(0 <= i && i < int64(len(d.values)), api.ErrIndex)
		return d.values[i]
	}
	var parts []int64
	for _, k := range n.of("expr") {
		parts = append(parts, s.value(k))
	}
	switch n.kids[0].text {
	case "TRUE", "FALSE":
		return flag(n.kids[0].text == "TRUE")
	case "NOT":
		return flag(parts[0] == 0)
	case "SHORT":
		return wrapped(parts[0], "INT")
	case "TON":
		return s.timed(s.things[n.kids[2].text], parts[0], parts[1])
	case "(":
		return valueOfTwo(n.of("op")[0].kids[0].text, s.kind(n), parts[0], parts[1])
	}
	return s.value(n.kids[0])
}

func (s *second) timed(d *thing, on, span int64) int64 {
	if on == 0 {
		d.values[0] = 0
		return 0
	}
	d.values[0] = min(d.values[0]+s.delta, 1<<31-1)
	return flag(d.values[0] >= span)
}

func valueOfTwo(op, kind string, a, b int64) int64 {
	switch op {
	case "+":
		return wrapped(a+b, kind)
	case "-":
		return wrapped(a-b, kind)
	case "*":
		return wrapped(a*b, kind)
	case "/":
		must(b != 0, api.ErrZero)
		return wrapped(a/b, kind)
	case "MOD":
		must(b != 0, api.ErrZero)
		return wrapped(a-b*(a/b), kind)
	case "=":
		return flag(a == b)
	case "<":
		return flag(a < b)
	case "AND":
		return a * b
	}
	return flag(a+b > 0)
}

// do is of statements, or of one.
func (s *second) do(n *node) {
	if n.rule == "stmts" {
		for _, k := range n.of("stmt") {
			s.do(k)
		}
		return
	}
	lists := n.of("stmts")
	switch n.kids[0].text {
	case "":
		s.set(n.kids[0], n.kids[2])
	case "IF":
		if s.value(n.kids[1]) != 0 {
			s.do(lists[0])
		} else if len(lists) > 1 {
			s.do(lists[1])
		}
	case "CASE":
		s.doCase(s.value(n.kids[1]), n.kids[3:])
	case "FOR":
		ends, d := n.of("literal"), s.things[n.kids[1].text]
		d.values[0] = s.value(ends[0])
		for i := s.value(ends[0]); i <= s.value(ends[1]); i++ {
			d.values[0] = i
			s.do(lists[0])
		}
	}
}

func (s *second) set(place, from *node) {
	d := s.things[place.kids[0].text]
	at := int64(0)
	if d.array {
		at = s.value(place.kids[2])
	}
	v := s.value(from)
	must(0 <= at && at < int64(len(d.values)), api.ErrIndex)
	d.values[at] = v
}

func (s *second) doCase(v int64, kids []*node) {
	hit := false
	for _, k := range kids {
		switch {
		case k.rule == "literal" && s.value(k) == v, k.text == "ELSE":
			hit = true
		case k.rule == "stmts" && hit:
			s.do(k)
			return
		}
	}
}

func (s *second) scan(inputs []int, delta int) api.Errno {
	if s.over != api.OK {
		return s.over
	}
	var before [][]int64
	for _, d := range s.order {
		before = append(before, slices.Clone(d.values))
		for i := range d.values {
			if d.role == "IN" {
				d.values[i], inputs = int64(inputs[0]), inputs[1:]
			}
		}
	}
	s.delta = int64(delta)
	s.over = caught(func() { s.do(s.root.of("stmts")[0]) })
	if s.over != api.OK {
		for i, d := range s.order {
			d.values = before[i]
		}
	}
	return s.over
}

func (s *second) outputs() []int {
	var list []int
	for _, d := range s.order {
		for _, v := range d.values {
			if d.role == "OUT" {
				list = append(list, int(v))
			}
		}
	}
	return list
}
