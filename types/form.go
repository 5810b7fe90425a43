package types

import (
	"strings"

	"plumbob/api"
)

// form is what a type's text says.
type form struct {
	word  string // char, int, long, void or struct
	name  string // of a struct
	stars int
	count int // of an array's elements, else 0; at most tooMany
}

// tooMany elements make each type too great, since none is smaller than a byte: a greater count need not be told from it.
const tooMany = api.MaxSize + 1

func (f form) isArray() bool { return f.count > 0 }

func (f form) isPointer() bool { return f.stars > 0 && !f.isArray() }

// isStruct tells whether it is a struct, or an array of them.
func (f form) isStruct() bool { return f.word == "struct" && f.stars == 0 }

// parse reads a type by its form alone: whether there is a struct of its name is not asked.
func parse(typ string) (form, bool) {
	rest, count, ok := cutCount(typ)
	if !ok {
		return form{}, false
	}
	base := strings.TrimRight(rest, "*")
	f := form{stars: len(rest) - len(base), count: count}
	var isNamed bool
	f.word, f.name, isNamed = strings.Cut(base, " ")
	switch {
	case isNamed:
		ok = f.word == "struct" && isName(f.name)
	case f.word == "void":
		ok = f.stars > 0 || count == 0
	default:
		ok = isInteger(f.word)
	}
	return f, ok
}

// cutCount parts the brackets, and the number in them, from what stands ahead; where there are none, the count is 0.
func cutCount(typ string) (rest string, count int, ok bool) {
	rest, behind, isArray := strings.Cut(typ, "[")
	if !isArray {
		return typ, 0, true
	}
	digits, ok := strings.CutSuffix(behind, "]")
	if !ok || digits == "" || digits[0] == '0' {
		return "", 0, false
	}
	for i := range len(digits) {
		if !isDigit(digits[i]) {
			return "", 0, false
		}
		count = min(10*count+int(digits[i]-'0'), tooMany)
	}
	return rest, count, true
}

func isName(s string) bool {
	if s == "" || len(s) > api.MaxName || isDigit(s[0]) {
		return false
	}
	for i := range len(s) {
		if !isDigit(s[i]) && !isLetter(s[i]) {
			return false
		}
	}
	return true
}

func isDigit(b byte) bool { return '0' <= b && b <= '9' }

func isLetter(b byte) bool { return 'a' <= b && b <= 'z' || 'A' <= b && b <= 'Z' || b == '_' }
