package cmin

import "plumbob/api"

// outcome is how it goes on behind a statement.
type outcome int

const (
	goesOn outcome = iota // with the next one
	breaks
	continues
	returns
	ended // not at all: the run is over
)

// exec executes a statement.
func (m *machine) exec(n *node) outcome {
	if !m.step() {
		return ended
	}
	switch n.kind {
	case block:
		return m.block(n)
	case choice:
		return m.choice(n)
	case loop:
		return m.loop(n)
	case breaking:
		return breaks
	case continuing:
		return continues
	case answer:
		return m.answer(n)
	}
	if !m.simple(n) {
		return ended
	}
	return goesOn
}

// simple executes a statement behind which it goes on with the next one.
func (m *machine) simple(n *node) bool {
	switch n.kind {
	case set:
		return m.set(n)
	case store:
		return m.store(n)
	}
	v, ok := m.eval(n.parts[0])
	if ok && n.kind == output {
		return m.output(v)
	}
	return ok
}

func (m *machine) block(n *node) outcome {
	for _, part := range n.parts {
		if how := m.exec(part); how != goesOn {
			return how
		}
	}
	return goesOn
}

func (m *machine) choice(n *node) outcome {
	isTrue, ok := m.branch(n.parts[0])
	switch {
	case !ok:
		return ended
	case isTrue:
		return m.exec(n.parts[1])
	case len(n.parts) > 2:
		return m.exec(n.parts[2])
	}
	return goesOn
}

func (m *machine) loop(n *node) outcome {
	for m.step() {
		isTrue, ok := m.branch(n.parts[0])
		if !ok {
			return ended
		}
		if !isTrue {
			return goesOn
		}
		switch how := m.exec(n.parts[1]); how {
		case breaks:
			return goesOn
		case returns, ended:
			return how
		}
	}
	return ended
}

func (m *machine) answer(n *node) outcome {
	if len(n.parts) > 0 {
		v, ok := m.eval(n.parts[0])
		if !ok {
			return ended
		}
		m.here.answer = v
	}
	return returns
}

func (m *machine) store(n *node) bool {
	at, v, ok := m.both(n.parts)
	if !ok || !m.reach(at) {
		return false
	}
	return m.memory.Store(n.op, at, v) || m.end(api.Stuck)
}

func (m *machine) output(v api.Val) bool {
	if v.Kind != api.Int {
		return m.end(api.Stuck)
	}
	m.tell(api.Out, v.N)
	return true
}
