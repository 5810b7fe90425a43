package lex

import (
	"strconv"
	"strings"

	"plumbob/api"
)

var keywords = [...]string{
	"char", "int", "long", "void", "struct", "public", "if", "else",
	"while", "break", "continue", "return", "sizeof", "in", "out",
}

// marks has those of two bytes first, since the longest that fits is the word.
var marks = [...]string{
	"->", "==", "!=", "<=", ">=", "<<", ">>", "&&", "||",
	"(", ")", "{", "}", "[", "]", ";", ",", ".", "=", "<", ">",
	"+", "-", "*", "/", "%", "&", "|", "^", "~", "!",
}

// word reads the word that begins a text of at least one byte; its place is not told.
func word(text string) (Word, bool) {
	if !isNameByte(text[0]) {
		return markWord(text)
	}
	// No name's byte may stand behind a number: so a number's word too is all of them.
	run := text[:nameBytes(text)]
	if isDigit(text[0]) {
		return numberWord(run)
	}
	return nameWord(run)
}

func markWord(text string) (Word, bool) {
	for _, m := range marks {
		if strings.HasPrefix(text, m) {
			return Word{Kind: Mark, Text: m}, true
		}
	}
	return Word{}, false
}

func nameWord(run string) (Word, bool) {
	if len(run) > api.MaxName {
		return Word{}, false
	}
	kind := Name
	if isKeyword(run) {
		kind = Key
	}
	return Word{Kind: kind, Text: strings.Clone(run)}, true
}

func isKeyword(name string) bool {
	for _, k := range keywords {
		if k == name {
			return true
		}
	}
	return false
}

func numberWord(run string) (Word, bool) {
	digits, isHex := strings.CutPrefix(run, "0x")
	base, most := 10, 19
	if isHex {
		base, most = 16, 16
	}
	if len(digits) > most || !isHex && run[0] == '0' && len(run) > 1 {
		return Word{}, false
	}
	n, err := strconv.ParseInt(digits, base, 64)
	if err != nil {
		return Word{}, false
	}
	return Word{Kind: Number, Text: strings.Clone(run), N: n}, true
}

// nameBytes counts the name's bytes with which a text begins.
func nameBytes(text string) int {
	n := 0
	for n < len(text) && isNameByte(text[n]) {
		n++
	}
	return n
}

func isBlank(b byte) bool { return b == ' ' || b == '\t' || b == '\r' || b == '\n' }

func isDigit(b byte) bool { return '0' <= b && b <= '9' }

func isNameByte(b byte) bool {
	return 'a' <= b && b <= 'z' || 'A' <= b && b <= 'Z' || b == '_' || isDigit(b)
}
