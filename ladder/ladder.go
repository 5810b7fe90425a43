// Package ladder takes sources down the first layers, for the tests of those behind them.
package ladder

import (
	"plumbob/alloc"
	"plumbob/api"
	"plumbob/ast"
	"plumbob/check"
	"plumbob/cmin"
	"plumbob/opt"
	"plumbob/rtl"
	"plumbob/rtlgen"
	"plumbob/sel"
)

// Located makes a source a program over locations, of graphs made shorter or as they are built; or it tells the first error.
func Located(text string, isShort bool) (*check.Program, rtl.Prog, api.Errno) {
	tree, _, e := ast.Parse(text)
	if e != api.OK {
		return nil, rtl.Prog{}, e
	}
	source, _, e := check.Check(tree)
	if e != api.OK {
		return nil, rtl.Prog{}, e
	}
	made, e := graphs(source)
	if e != api.OK {
		return nil, rtl.Prog{}, e
	}
	if isShort {
		made, e = opt.All(made)
	}
	if e != api.OK {
		return nil, rtl.Prog{}, e
	}
	made, e = alloc.Allocate(made)
	if e != api.OK {
		return nil, rtl.Prog{}, e
	}
	return source, made, api.OK
}

// graphs makes a source graphs over registers.
func graphs(source *check.Program) (rtl.Prog, api.Errno) {
	plain, e := cmin.Gen(source)
	if e != api.OK {
		return rtl.Prog{}, e
	}
	chosen, e := sel.Select(plain)
	if e != api.OK {
		return rtl.Prog{}, e
	}
	return rtlgen.Build(chosen)
}
