package cmin

// kind is what a node is.
type kind int

// The kinds: what each does, by the fields that it has. Parts are evaluated, or executed, in their order.
const (
	number   kind = iota + 1 // comes to n
	variable                 // comes to the value of the variable n
	local                    // comes to the pointer to the byte n of the call's block
	global                   // comes to the pointer to the global n
	load                     // comes to what op bytes hold; its part says where
	unary                    // comes to the operation op on its part
	binary                   // comes to the operation op on its parts
	both                     // a branch on its first part, and if that is true on its second: comes to 1, if both are true, else to 0
	either                   // a branch on its first part, and if that is false on its second: comes to 1, if one is true, else to 0
	input                    // comes to the number that comes in
	call                     // comes to what the function n answers; its parts are the arguments
	let                      // gives its first part to the variable n; comes to its second
	keep                     // comes to its part

	block      // executes its parts
	set        // gives its part to the variable n
	store      // lays its second part into op bytes; its first says where
	choice     // a branch on its first part: executes the second, or else the third, if there is one
	loop       // a branch on its first part: executes the second, and does all again; or else ends
	breaking   // ends the innermost loop
	continuing // goes on with the innermost loop's next test
	answer     // ends the call, which comes to its part, if there is one
	output     // its part goes out
	alone      // evaluates its part
)

// node is an expression or a statement. Each one uses one of the fuel, ahead of all that it does; so does each test of a loop.
type node struct {
	kind  kind
	op    int
	n     int64
	parts []*node
}

func constant(n int64) *node { return &node{kind: number, n: n} }

// the makes what is known by its number: a variable, a byte of the block, a global, a call.
func the(k kind, n int) *node { return &node{kind: k, n: int64(n)} }

func of(k kind, parts ...*node) *node { return &node{kind: k, parts: parts} }

func one(op int, e *node) *node { return &node{kind: unary, op: op, parts: []*node{e}} }

func two(op int, first, second *node) *node {
	return &node{kind: binary, op: op, parts: []*node{first, second}}
}

func setting(n int, e *node) *node { return &node{kind: set, n: int64(n), parts: []*node{e}} }

// kept stands for a part of the source that does nothing but use fuel. So no run comes further than the source's with the same fuel: behind the greatest one it isn't known what the source leaks.
func kept(e *node) *node { return of(keep, e) }
