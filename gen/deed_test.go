package gen_test

import (
	"fmt"
	"slices"
	"testing"

	"plumbob/api"
	"plumbob/asm"
	"plumbob/gen"
	"plumbob/rtl"
	"plumbob/trace"
)

// stood are locations that deeds name: registers that the machine takes for some operations, others, and words.
func stood() []int { return []int{0, 1, 2, 3, 7, 16, 17} }

const most = 100000

// locations are all that there are, in the programs in which a deed is done.
func locations() []int { return nameable(20) }

// scene is how a deed is done: what the locations have that it does not name.
type scene int

const (
	withInts scene = iota
	withPointers
	withNone
)

// around has a deed done in a scene: a program that gives locations what they have, does it, and shows what they have then. shown are the locations that have Ints behind it.
func around(s scene, a, b int, left, right rtl.Instr, deed rtl.Instr, shown []int) rtl.Prog {
	var code []rtl.Instr
	if s == withPointers {
		// Each byte of the global is another one, and so is what is behind each pointer.
		code = append(code, global(0, 0, 3))
		for n := range 20 {
			code = append(code, constant(1, int64(n+40)), store(1, 3, int64(n), 1))
		}
	}
	for _, loc := range locations() {
		switch s {
		case withInts:
			code = append(code, constant(loc, int64(1000+loc)))
		case withPointers:
			code = append(code, global(0, int64(loc), loc))
		}
	}
	left.D, right.D = a, b
	if b >= 0 {
		code = append(code, right)
	}
	if a >= 0 {
		code = append(code, left)
	}
	code = append(code, deed)
	for _, loc := range locations() {
		if slices.Contains(shown, loc) {
			code = append(code, output(loc))
			continue
		}
		switch s {
		case withInts:
			code = append(code, output(loc))
		case withPointers:
			code = append(code, load(1, loc, 0, loc), output(loc))
		}
	}
	main := framed(8, function(0, row(append(code, constant(0, 5), leave())...)...))
	main.Regs = 20
	return rtl.Prog{Globals: []int{32}, Funcs: []rtl.Func{main}}
}

// isCrowded tells whether a deed is a division in which the word that it writes is needed for more.
func isCrowded(i rtl.Instr) bool {
	return i.Op == rtl.Bin && (i.Sub == api.Div || i.Sub == api.Mod) && i.D >= 16 && (i.B >= 16 || i.B < 0)
}

// done asks that a deed does in code what it does with frames, and leaks the same. It tells whether it has a meaning.
func done(t *testing.T, what string, p rtl.Prog, deed rtl.Instr) bool {
	t.Helper()
	framed := stacked(t, p)
	made, e := gen.Emit(framed)
	if e != api.OK {
		t.Fatalf("P21.1: Emit of %s: %d", framed.Text(), e)
	}
	above, e := framed.Run(nil, l(77), most)
	below, f := asm.Run(made, nil, l(77), most, all)
	if e != api.OK || f != api.OK {
		t.Fatalf("P21.1: %s: %d, with frames %d", what, f, e)
	}
	upper, lower := withoutSides(above.Leaks), withoutSides(atFrames(framed, below.Leaks))
	isSame := trace.Same(above, below) && slices.Equal(own(framed, upper), own(framed, lower)) && (isCrowded(deed) || slices.Equal(upper, lower))
	if !isSame && above.Kind != api.Stuck || below.Steps > 20*above.Steps+100 {
		t.Errorf("P21.1: %s: %s, with frames %s: %sof %s", what, told(below), told(above), asm.Text(made), framed.Text())
	}
	return above.Kind == api.Halt
}

// scenes asks a deed in all scenes. left and right are what its operands have.
func scenes(t *testing.T, a, b int, left, right, deed rtl.Instr, shown ...int) int {
	t.Helper()
	halts := 0
	for _, s := range []scene{withInts, withPointers, withNone} {
		what := fmt.Sprintf("%s, of %s and %s, in scene %d", rtl.Deed(deed), rtl.Deed(left), rtl.Deed(right), s)
		if done(t, what, around(s, a, b, left, right, deed, shown), deed) {
			halts++
		}
	}
	return halts
}

// TestOperations has each operation on two values, of each two locations into each, and with constants.
func TestOperations(t *testing.T) {
	t.Parallel()
	halts := 0
	for op := api.Add; op <= api.Ge; op++ {
		left, right := constant(0, -1234567), constant(0, 37)
		for _, a := range stood() {
			for _, d := range stood() {
				for _, b := range stood() {
					if a == b {
						halts += scenes(t, a, b, right, right, both(op, a, b, d), a, b, d)
						continue
					}
					halts += scenes(t, a, b, left, right, both(op, a, b, d), a, b, d)
				}
				for _, k := range []int64{5, -1 << 31, 1 << 31} {
					halts += scenes(t, a, -1, left, right, fixed(op, a, k, d), a, d)
				}
			}
		}
	}
	// All of these but shifts by too much have a meaning.
	if want := 3 * (16*7*7*7 + 16*7*7*3 - 2*7*7*2); halts != want {
		t.Errorf("P21.1: %d halt, want %d", halts, want)
	}
}

// TestNumbers has the operations on numbers at which something turns.
func TestNumbers(t *testing.T) {
	t.Parallel()
	halts := 0
	for op := api.Add; op <= api.Ge; op++ {
		for n, x := range append(edges, 2, 63, 64) {
			for m, y := range append(edges, 2, 63, 64) {
				at := [][3]int{{0, 1, 2}, {2, 0, 16}, {16, 17, 16}, {3, 16, 1}}[(n+m)%4]
				of := [2]rtl.Instr{both(op, at[0], at[1], at[2]), fixed(op, at[0], y, at[2])}[(n*m+op)%2]
				if done(t, fmt.Sprintf("%s of %d, %d", rtl.Deed(of), x, y), around(withNone, at[0], at[1], constant(0, x), constant(0, y), of, at[:]), of) {
					halts++
				}
			}
		}
	}
	if halts < 3000 {
		t.Errorf("P21.1: %d halt", halts)
	}
}

// TestPointers has operations of pointers.
func TestPointers(t *testing.T) {
	t.Parallel()
	halts := 0
	for op := api.Add; op <= api.Ge; op++ {
		for _, a := range stood() {
			for _, d := range stood() {
				for _, b := range stood() {
					for _, operands := range [][2]rtl.Instr{{global(0, 9, 0), constant(0, 4)}, {constant(0, 4), global(0, 9, 0)}, {global(0, 9, 0), global(0, 9, 0)}, {global(0, 9, 0), home(8, 0)}, {home(0, 0), constant(0, 0)}, {constant(0, 0), home(8, 0)}} {
						if a == b || a == d || b == d {
							continue
						}
						p := around(withNone, a, b, operands[0], operands[1], both(op, a, b, d), nil)
						// What is made is a pointer, or it is a truth: of the one its byte is shown, of the other itself.
						main := &p.Funcs[0]
						main.Code = main.Code[:len(main.Code)-2]
						if op == api.Add || op == api.Sub {
							main.Code = append(main.Code, load(1, d, 0, d))
						}
						main.Code = row(append(main.Code, output(d), constant(0, 5), leave())...)
						if done(t, rtl.Deed(both(op, a, b, d)), p, both(op, a, b, d)) {
							halts++
						}
					}
				}
			}
		}
	}
	if halts < 500 {
		t.Errorf("P21.1: %d halt", halts)
	}
}

// TestSingle has the deeds with no second operand that is a location.
func TestSingle(t *testing.T) {
	t.Parallel()
	halts := 0
	value := constant(0, -1234567890123)
	for _, a := range stood() {
		for _, d := range stood() {
			for op := api.Neg; op <= api.Ext32; op++ {
				halts += scenes(t, a, -1, value, value, un(op, a, d), a, d)
			}
			halts += scenes(t, a, -1, value, value, move(a, d), a, d)
		}
		halts += scenes(t, a, -1, value, value, output(a), a)
		halts += scenes(t, -1, -1, value, value, input(a), a)
		for _, k := range edges {
			halts += scenes(t, -1, -1, value, value, constant(a, k), a)
		}
	}
	if halts < 1000 {
		t.Errorf("P21.1: %d halt", halts)
	}
}

// TestAccesses has loads and stores, through pointers to a global and to the block, with offsets of 32 bits and of more.
func TestAccesses(t *testing.T) {
	t.Parallel()
	halts := 0
	for _, chunk := range []int{1, 4, 8} {
		for _, a := range stood() {
			for _, d := range stood() {
				for _, k := range []int64{0, 8, -8, 1<<31 - 1, -1 << 31, 1 << 31, -1<<31 - 1, 1 << 40, lowest, highest} {
					for _, pointer := range []rtl.Instr{global(0, 8, a), home(0, a)} {
						if a == d {
							continue
						}
						// The pointer is so far ahead of what is asked for as the offset says.
						code := []rtl.Instr{constant(5, -77), pointer, store(8, a, 0, 5), constant(d, -1234567890), constant(5, -k), both(api.Add, a, 5, a), load(chunk, a, k, 6), output(6), store(chunk, a, k, d), load(chunk, a, k, d), output(d), fixed(api.Add, a, 0, a), constant(5, k), both(api.Add, a, 5, a), load(8, a, 0, a), output(a)}
						main := framed(8, function(0, row(append(code, constant(0, 1), leave())...)...))
						main.Regs = 20
						if done(t, fmt.Sprint(chunk, a, d, k), rtl.Prog{Globals: []int{32}, Funcs: []rtl.Func{main}}, code[6]) {
							halts++
						}
					}
				}
			}
		}
	}
	if halts != 3*7*6*10*2 {
		t.Errorf("P21.1: %d halt", halts)
	}
	// A pointer is stored into itself, and loaded over itself.
	for _, a := range stood() {
		for _, k := range []int64{0, 8, 1 << 40} {
			code := []rtl.Instr{global(0, 8, a), constant(5, -k), both(api.Add, a, 5, a), store(8, a, k, a), load(8, a, k, a), load(1, a, k, a), output(a), constant(0, 1), leave()}
			main := function(0, row(code...)...)
			main.Regs = 20
			done(t, fmt.Sprint("itself ", a, k), rtl.Prog{Globals: []int{32}, Funcs: []rtl.Func{main}}, code[3])
		}
	}
}

// TestPointing has pointers to all bytes of globals and blocks, behind the last one, too.
func TestPointing(t *testing.T) {
	for _, d := range stood() {
		for k := range int64(9) {
			for _, pointer := range []rtl.Instr{global(0, k, d), global(1, k, d), home(k, d)} {
				code := []rtl.Instr{pointer, constant(5, 6), store(1, d, -k, 5), store(1, d, 7-k, 5), load(4, d, -k, d), output(d), constant(0, 1), leave()}
				main := framed(8, function(0, row(code...)...))
				main.Regs = 20
				if !done(t, rtl.Deed(pointer), rtl.Prog{Globals: []int{8, 8}, Funcs: []rtl.Func{main}}, pointer) && pointer.Op == rtl.Global {
					t.Errorf("P21.1: %s does not halt", rtl.Deed(pointer))
				}
			}
		}
	}
}

// TestChoices has each comparison in a choice that stays, and in one that goes on elsewhere, of each two locations, and with constants.
func TestChoices(t *testing.T) {
	t.Parallel()
	halts := 0
	for op := api.Eq; op <= api.Ge; op++ {
		for _, a := range stood() {
			for _, b := range append(stood(), -1) {
				for _, numbers := range [][2]int64{{4, 4}, {4, 5}, {5, 4}, {1 << 40, 1 << 40}, {-1 << 31, -1<<31 - 1}, {lowest, highest}} {
					for isBack := range 2 {
						code := []rtl.Instr{to(1, constant(0, 3)), to(2, constant(max(b, 0), numbers[1])), to(3, constant(a, numbers[0])), {Op: rtl.Cond, Sub: op, A: a, B: b, K: numbers[1], S: 4, T: 5}, to(6, constant(0, 1)), to(7, constant(0, 2)), to(7, constant(3, 1)), leave()}
						if isBack == 1 {
							// One way is laid ahead of the choice.
							code = []rtl.Instr{to(1, constant(0, 3)), to(2, constant(5, 0)), to(3, constant(max(b, 0), numbers[1])), to(4, constant(a, numbers[0])), to(5, output(a)), test(5, 0, 7, 6), {Op: rtl.Cond, Sub: op, A: a, B: b, K: numbers[1], S: 8, T: 7}, leave(), to(2, constant(5, 1))}
							if a == 5 {
								continue
							}
						}
						f := function(0, code...)
						f.Regs = 20
						if done(t, fmt.Sprint(op, a, b, numbers, isBack), program(f), code[3]) {
							halts++
						}
					}
				}
			}
		}
	}
	if halts < 3000 {
		t.Errorf("P21.1: %d halt", halts)
	}
}
