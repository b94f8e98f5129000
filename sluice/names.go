package sluice

// declared gives the variables by their names; false, if one is declared
// twice, or a name is used that is not declared.
func (p program) declared() (map[string]*variable, bool) {
	names := map[string]*variable{}
	for _, v := range p.variables {
		if names[v.name] != nil {
			return nil, false
		}
		names[v.name] = v
	}
	for _, name := range p.used {
		if names[name] == nil {
			return nil, false
		}
	}
	return names, true
}
