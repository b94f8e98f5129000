package sluice

import "sluice/layout"

// kind is what a value is. All but timers are kinds of cells, too.
type kind byte

const (
	boolKind  = kind(layout.Bool)
	intKind   = kind(layout.Int)
	dintKind  = kind(layout.Dint)
	timerKind = kind(layout.Kinds)
)

// program is a text, read.
type program struct {
	variables []*variable
	used      []string // the names that stand in statements
	body      []stmt
}

// variable is what a declaration tells.
type variable struct {
	name   string
	role   byte
	kind   kind // an array's: that of its elements
	array  bool
	length int64 // 1, if it is no array
	first  byte  // its first cell, once cells are given out
}

// expr is an expression. Its kind is asked for ahead of its code: what a pair
// writes hangs on it.
type expr interface {
	kindIn(c *checker) kind
	cost() int64
	write(w *writer)
}

type literal struct{ value int64 }

type truth struct{ value bool }

type place struct {
	name  string
	index expr // nil, if there is none
}

type pair struct {
	left, right expr
	op          operator
	kind        kind // known once it is asked for
}

type negation struct{ part expr }

type short struct{ part expr }

type delay struct {
	timer    string
	on, span expr
}

// stmt is a statement.
type stmt interface {
	check(c *checker)
	cost() int64
	write(w *writer)
}

type setting struct {
	place place
	value expr
}

type choice struct {
	condition   expr
	then, other []stmt
}

type selection struct {
	value expr
	whens []when
	other []stmt
}

type when struct {
	literals []int64
	body     []stmt
}

type loop struct {
	name        string
	first, last int64
	body        []stmt
}

// rounds is how often a loop is done.
func (s loop) rounds() int64 {
	return max(0, s.last-s.first+1)
}

// family is what an operator takes and gives.
type family byte

const (
	reckons  family = iota // two numbers, and a number
	equals                 // two numbers or two BOOLs, and a BOOL
	compares               // two numbers, and a BOOL
	joins                  // two BOOLs, and a BOOL
)

// operator is what stands between two expressions.
type operator struct {
	sign        string
	family      family
	instruction byte
}

var operators = [...]operator{
	{"+", reckons, layout.Add},
	{"-", reckons, layout.Sub},
	{"*", reckons, layout.Mul},
	{"/", reckons, layout.Div},
	{"MOD", reckons, layout.Mod},
	{"=", equals, layout.Eq},
	{"<", compares, layout.Lt},
	{"AND", joins, layout.And},
	{"OR", joins, layout.Or},
}
