package core

// outcome is how it goes on behind a statement.
type outcome int

const (
	goesOn outcome = iota // with the next one
	breaks
	continues
	returns
	ended // not at all: the run is over
)

// exec executes a statement.
func (m *machine) exec(n *Node) outcome {
	if !m.Use(n.Steps) {
		return ended
	}
	switch n.Kind {
	case Block:
		return m.block(n)
	case Choice:
		return m.choice(n)
	case Loop:
		return m.loop(n)
	case Breaking:
		return breaks
	case Continuing:
		return continues
	case Answer:
		return m.answer(n)
	}
	if !m.simple(n) {
		return ended
	}
	return goesOn
}

// simple executes a statement behind which it goes on with the next one.
func (m *machine) simple(n *Node) bool {
	switch n.Kind {
	case Set:
		return m.set(n)
	case Store:
		return m.store(n)
	}
	v, ok := m.eval(n.Parts[0])
	if ok && n.Kind == Output {
		return m.Output(v)
	}
	return ok
}

func (m *machine) store(n *Node) bool {
	from, v, ok := m.both(n.Parts)
	if !ok {
		return false
	}
	at, ok := m.behind(from, n.K)
	return ok && m.Store(n.Op, at, v)
}

func (m *machine) block(n *Node) outcome {
	for _, part := range n.Parts {
		if how := m.exec(part); how != goesOn {
			return how
		}
	}
	return goesOn
}

func (m *machine) choice(n *Node) outcome {
	isTrue, ok := m.branch(n.Parts[0])
	switch {
	case !ok:
		return ended
	case isTrue:
		return m.exec(n.Parts[1])
	case len(n.Parts) > 2:
		return m.exec(n.Parts[2])
	}
	return goesOn
}

// loop uses one of the fuel for each test.
func (m *machine) loop(n *Node) outcome {
	for m.Use(1) {
		isTrue, ok := m.branch(n.Parts[0])
		if !ok {
			return ended
		}
		if !isTrue {
			return goesOn
		}
		switch how := m.exec(n.Parts[1]); how {
		case breaks:
			return goesOn
		case returns, ended:
			return how
		}
	}
	return ended
}

func (m *machine) answer(n *Node) outcome {
	if len(n.Parts) > 0 {
		v, ok := m.eval(n.Parts[0])
		if !ok {
			return ended
		}
		m.here.answer = v
	}
	return returns
}
