package clight

import (
	"plumbob/api"
)

// outcome is how it goes on behind a statement.
type outcome int

const (
	goesOn outcome = iota // with the next one
	breaks
	continues
	returns
	ended // not at all: the run is over
)

// statement is what can be executed. The fuel that it uses as one is used ahead of that.
type statement interface {
	exec(m *machine) outcome
}

// exec executes a statement as the text has it.
func (m *machine) exec(s statement) outcome {
	if !m.step() {
		return ended
	}
	return s.exec(m)
}

// jump is one that does nothing but say how it goes on.
type jump struct{ how outcome }

func (j jump) exec(*machine) outcome { return j.how }

type block struct{ list []statement }

func (b block) exec(m *machine) outcome {
	for _, s := range b.list {
		if how := m.exec(s); how != goesOn {
			return how
		}
	}
	return goesOn
}

// choice is an `if`.
type choice struct {
	test      expression
	then, alt statement // alt is nil without an `else`
}

func (c choice) exec(m *machine) outcome {
	isTrue, ok := m.branch(c.test)
	switch {
	case !ok:
		return ended
	case isTrue:
		return m.exec(c.then)
	case c.alt != nil:
		return m.exec(c.alt)
	}
	return goesOn
}

// loop is a `while`.
type loop struct {
	test expression
	body statement
}

func (l loop) exec(m *machine) outcome {
	for m.step() {
		isTrue, ok := m.branch(l.test)
		if !ok {
			return ended
		}
		if !isTrue {
			return goesOn
		}
		switch how := m.exec(l.body); how {
		case breaks:
			return goesOn
		case returns, ended:
			return how
		}
	}
	return ended
}

// set gives a value to a variable that is held apart.
type set struct {
	number int
	e      expression
}

func (s set) exec(m *machine) outcome {
	v, ok := s.e.eval(m)
	if !ok {
		return ended
	}
	m.here.slots[s.number] = v
	return goesOn
}

// store gives a value to a place in the memory.
type store struct {
	at, e expression
	chunk int
}

func (s store) exec(m *machine) outcome {
	at, v, ok := m.both(s.at, s.e)
	if !ok || !m.reach(at) {
		return ended
	}
	if !m.memory.Store(s.chunk, at, v) {
		m.end(api.Stuck)
		return ended
	}
	return goesOn
}

// answer is a `return` with a value.
type answer struct{ e expression }

func (a answer) exec(m *machine) outcome {
	v, ok := a.e.eval(m)
	if !ok {
		return ended
	}
	m.here.answer = v
	return returns
}

// output is `out(e)`.
type output struct{ e expression }

func (o output) exec(m *machine) outcome {
	v, ok := o.e.eval(m)
	if !ok {
		return ended
	}
	if v.Kind != api.Int {
		m.end(api.Stuck)
		return ended
	}
	m.tell(api.Out, v.N)
	return goesOn
}

// alone is an expression whose value nobody takes.
type alone struct{ e expression }

func (a alone) exec(m *machine) outcome {
	if _, ok := a.e.eval(m); !ok {
		return ended
	}
	return goesOn
}
