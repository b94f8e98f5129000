package sluice

func (p *parser) expr() expr {
	next := p.next()
	switch {
	case next == "-" || isNumber(next):
		return literal{p.literal()}
	case isName(next):
		return p.place()
	case p.accept("TRUE"):
		return truth{true}
	case p.accept("FALSE"):
		return truth{false}
	case p.accept("("):
		return p.pair()
	case p.accept("NOT"):
		return negation{p.deeper()}
	case p.accept("SHORT"):
		return short{p.deeper()}
	case p.accept("TON"):
		return p.delay()
	}
	p.fail()
	return truth{}
}

func (p *parser) deeper() expr {
	p.enter()
	defer p.leave()
	return p.expr()
}

func (p *parser) place() place {
	e := place{name: p.use()}
	if p.accept("[") {
		e.index = p.deeper()
		p.expect("]")
	}
	return e
}

func (p *parser) pair() expr {
	p.enter()
	defer p.leave()
	e := &pair{left: p.expr()}
	e.op = p.operator()
	e.right = p.expr()
	p.expect(")")
	return e
}

func (p *parser) operator() operator {
	for _, o := range operators {
		if p.accept(o.sign) {
			return o
		}
	}
	p.fail()
	return operator{}
}

func (p *parser) delay() expr {
	p.enter()
	defer p.leave()
	p.expect("(")
	e := delay{timer: p.use()}
	p.expect(",")
	e.on = p.expr()
	p.expect(",")
	e.span = p.expr()
	p.expect(")")
	return e
}
