package sluice

func (p *parser) stmts() []stmt {
	var list []stmt
	for s, ok := p.stmt(); ok; s, ok = p.stmt() {
		list = append(list, s)
		p.expect(";")
	}
	return list
}

// stmt is false, where no statement begins.
func (p *parser) stmt() (stmt, bool) {
	switch {
	case isName(p.next()):
		return p.setting(), true
	case p.accept("IF"):
		return p.choice(), true
	case p.accept("CASE"):
		return p.selection(), true
	case p.accept("FOR"):
		return p.loop(), true
	}
	return nil, false
}

func (p *parser) setting() stmt {
	place := p.place()
	p.expect(":=")
	return setting{place, p.expr()}
}

func (p *parser) choice() stmt {
	p.enter()
	defer p.leave()
	s := choice{condition: p.expr()}
	p.expect("THEN")
	s.then = p.stmts()
	s.other = p.otherwise()
	return s
}

// otherwise is what stands from an ELSE (if there is one) to the END.
func (p *parser) otherwise() []stmt {
	var list []stmt
	if p.accept("ELSE") {
		list = p.stmts()
	}
	p.expect("END")
	return list
}

func (p *parser) selection() stmt {
	p.enter()
	defer p.leave()
	s := selection{value: p.expr()}
	p.expect("OF")
	for p.accept("WHEN") {
		s.whens = append(s.whens, p.when())
	}
	s.other = p.otherwise()
	return s
}

func (p *parser) when() when {
	w := when{literals: []int64{p.literal()}}
	for p.accept(",") {
		w.literals = append(w.literals, p.literal())
	}
	p.expect(":")
	w.body = p.stmts()
	return w
}

func (p *parser) loop() stmt {
	p.enter()
	defer p.leave()
	s := loop{name: p.use()}
	p.expect(":=")
	s.first = p.literal()
	p.expect("TO")
	s.last = p.literal()
	p.expect("DO")
	s.body = p.stmts()
	p.expect("END")
	return s
}
