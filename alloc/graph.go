package alloc

import (
	"iter"
	"math/bits"
	"slices"
)

// wordBits is how many registers stand in a word.
const wordBits = 64

// graph has of each register those whose locations must be unlike its own.
type graph struct {
	words int      // of a register
	rows  []uint64 // by register: a bit for each other one
}

// newGraph has so many registers, and some pairs of them.
func newGraph(registers int, clashes iter.Seq2[int, int]) *graph {
	words := (registers + wordBits - 1) / wordBits
	g := &graph{words, make([]uint64, registers*words)}
	for a, b := range clashes {
		g.join(a, b)
		g.join(b, a)
	}
	return g
}

func (g *graph) join(a, b int) { g.row(a)[b/wordBits] |= 1 << (b % wordBits) }

func (g *graph) row(r int) []uint64 { return g.rows[r*g.words : (r+1)*g.words] }

// neighbours gives the registers around one, rising.
func (g *graph) neighbours(r int) iter.Seq[int] {
	return func(yield func(int) bool) {
		for n, word := range g.row(r) {
			for ; word != 0; word &= word - 1 {
				if !yield(n*wordBits + bits.TrailingZeros64(word)) {
					return
				}
			}
		}
	}
}

// degrees tells of each register how many are around it.
func (g *graph) degrees() []int {
	var l []int
	for row := range slices.Chunk(g.rows, max(1, g.words)) {
		count := 0
		for _, word := range row {
			count += bits.OnesCount64(word)
		}
		l = append(l, count)
	}
	return l
}
