package core

// Kind is what a node is.
type Kind int

// The kinds: what each does, by the fields that it has. Parts are evaluated, or executed, in their order.
const (
	Number   Kind = iota + 1 // comes to K
	Variable                 // comes to the value of the variable N
	Local                    // comes to the pointer to the byte N of the call's block
	Global                   // comes to the pointer to the global N
	Load                     // comes to what Op bytes hold, K bytes behind where its part says
	Unary                    // comes to the operation Op on its part
	Binary                   // comes to the operation Op on its parts
	Fixed                    // comes to the operation Op on its part and K
	Both                     // a branch on its first part, and if that is true on its second: comes to 1, if both are true, else to 0
	Either                   // a branch on its first part, and if that is false on its second: comes to 1, if one is true, else to 0
	And                      // as Both; but a branch on it is none besides those on its parts
	Or                       // as Either; likewise
	Input                    // comes to the number that comes in
	Call                     // comes to what the function N answers; its parts are the arguments
	Let                      // gives its first part to the variable N, which nothing but its second reads, and no other Let there gives; comes to its second
	Keep                     // comes to its part

	Block      // executes its parts
	Set        // gives its part to the variable N
	Store      // lays its second part into Op bytes, K bytes behind where its first says
	Choice     // a branch on its first part: executes the second, or else the third, if there is one
	Loop       // a branch on its first part: executes the second, and does all again; or else ends
	Breaking   // ends the innermost loop
	Continuing // goes on with the innermost loop's next test
	Answer     // ends the call, which comes to its part, if there is one
	Output     // its part goes out
	Alone      // evaluates its part
)

// Node is an expression or a statement. It uses so many Steps of the fuel, ahead of all that it does; each test of a loop uses one besides.
type Node struct {
	Kind  Kind
	Op    int
	N     int
	K     int64
	Parts []*Node
	Steps int
}
