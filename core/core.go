// Package core: programs of statements and expressions without types. It is the language of cmin, and of sel, each with nodes that the other has not.
package core

import (
	"plumbob/api"
	"plumbob/state"
)

// Prog is a program.
type Prog struct {
	Globals   []int // their sizes
	Functions []Function
	Main      int // its number
}

// Function is one: its variables have values, the parameters' first, and all that needs memory shares a block.
type Function struct {
	Name   string
	Params int
	Vars   int // the parameters too
	Frame  int // the bytes of its block
	// Above MaxSize no block can be made in one piece, and parameters may come on top of variables that take as much: then a second one has the bytes from here on. Else it is Frame.
	Cut  int
	Body *Node
}

// Run runs it.
func (p *Prog) Run(args, world []int64, fuel int) (api.Run, api.Errno) {
	if len(args) != p.Functions[p.Main].Params || fuel < 0 || fuel > state.MaxFuel {
		return api.Run{}, api.EARG
	}
	m := &machine{State: state.New(world, fuel), program: p}
	m.start(state.Values(args))
	return m.Run, api.OK
}

// Text tells it.
func (p *Prog) Text() string {
	var t teller
	t.program(p)
	return t.text.String()
}
