package lex

import (
	"iter"
	"strings"

	"plumbob/api"
)

// cutter goes through a text from its first byte on.
type cutter struct {
	text  string
	at    int
	place api.Pos // of the byte at
}

func begin(text string) *cutter {
	return &cutter{text: text, place: api.Pos{Line: 1, Col: 1}}
}

func (c *cutter) more() bool { return c.at < len(c.text) }

func (c *cutter) begins(s string) bool { return strings.HasPrefix(c.text[c.at:], s) }

// words gives the words that are left, with their numbers; it ends behind the text's last byte, or stays at the first byte of a fault.
func (c *cutter) words() iter.Seq2[int, Word] {
	return func(yield func(int, Word) bool) {
		for i := 0; c.passGaps() && c.more(); i++ {
			w, ok := word(c.text[c.at:])
			if !ok {
				return
			}
			w.At = c.place
			c.pass(len(w.Text))
			if !yield(i, w) {
				return
			}
		}
	}
}

// passGaps goes past blanks and remarks; at a remark that does not end it stays, and tells false.
func (c *cutter) passGaps() bool {
bytes:
	for c.more() {
		switch {
		case isBlank(c.text[c.at]):
			c.pass(1)
		case c.begins("//"):
			for c.more() {
				if c.text[c.at] == '\n' {
					continue bytes
				}
				c.pass(1)
			}
		case c.begins("/*"):
			first := *c
			// The star that begins a remark does not end it.
			for c.pass(2); c.more(); c.pass(1) {
				if c.begins("*/") {
					c.pass(2)
					continue bytes
				}
			}
			*c = first
			return false
		default:
			break bytes
		}
	}
	return true
}

// pass goes on by n bytes.
func (c *cutter) pass(n int) {
	for range n {
		if c.text[c.at] == '\n' {
			c.place.Line++
			c.place.Col = 0
		}
		c.place.Col++
		c.at++
	}
}
