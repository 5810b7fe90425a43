package cmin

import "plumbob/core"

// made makes a node. Each one uses one of the fuel.
func made(n core.Node) *core.Node {
	n.Steps = 1
	return &n
}

func constant(k int64) *core.Node { return made(core.Node{Kind: core.Number, K: k}) }

// the makes what has a number: a variable, a byte of the block, a global, a call, or what gives a variable its first part.
func the(k core.Kind, n int, parts ...*core.Node) *core.Node {
	return made(core.Node{Kind: k, N: n, Parts: parts})
}

func of(k core.Kind, parts ...*core.Node) *core.Node { return made(core.Node{Kind: k, Parts: parts}) }

func one(op int, e *core.Node) *core.Node {
	return made(core.Node{Kind: core.Unary, Op: op, Parts: []*core.Node{e}})
}

func two(op int, first, second *core.Node) *core.Node {
	return made(core.Node{Kind: core.Binary, Op: op, Parts: []*core.Node{first, second}})
}

// access makes a Load or a Store of so many bytes.
func access(k core.Kind, size int, parts ...*core.Node) *core.Node {
	return made(core.Node{Kind: k, Op: size, Parts: parts})
}

// kept stands for a part of the source that does nothing but use fuel. So no run comes further than the source's with the same fuel: behind the greatest one it isn't known what the source leaks.
func kept(e *core.Node) *core.Node { return of(core.Keep, e) }
