package types

import (
	"strings"

	"plumbob/api"
)

// shape is a struct that is laid out.
type shape struct {
	places      []Place
	size, align int
}

const pointerSize = 8

// numbersOf tells each name's first number: a struct with another number has a name that is there already.
func numbersOf(l []Struct) map[string]int {
	numbers := make(map[string]int, len(l))
	for i, s := range l {
		if _, ok := numbers[s.Name]; !ok {
			numbers[strings.Clone(s.Name)] = i
		}
	}
	return numbers
}

// shapeOf finds a struct among those that are laid out.
func (t *Table) shapeOf(name string) (shape, bool) {
	i, ok := t.numbers[name]
	if !ok || i >= len(t.shapes) {
		return shape{}, false
	}
	return t.shapes[i], true
}

// single tells the size and alignment of a type, its brackets aside.
func (t *Table) single(f form) (size, align int, ok bool) {
	if f.isStruct() {
		s, ok := t.shapeOf(f.name)
		return s.size, s.align, ok
	}
	if f.stars > 0 {
		return t.pointer(f)
	}
	switch f.word {
	case "char":
		return 1, 1, true
	case "int":
		return 4, 4, true
	case "long":
		return 8, 8, true
	}
	return 0, 0, false
}

// pointer asks of a struct only that its name is known: so that it may stand behind.
func (t *Table) pointer(f form) (size, align int, ok bool) {
	if f.word == "struct" {
		if _, ok := t.numbers[f.name]; !ok {
			return 0, 0, false
		}
	}
	return pointerSize, pointerSize, true
}

// add lays out the struct that is next.
func (t *Table) add(s Struct) api.Errno {
	if !isName(s.Name) || t.numbers[s.Name] != len(t.shapes) || len(s.Fields) == 0 {
		return api.ETYPE
	}
	laid, e := t.layOut(s.Fields)
	if e != api.OK {
		return e
	}
	t.shapes = append(t.shapes, laid)
	return api.OK
}

// layOut goes through all fields even behind one that is too great, since one behind it may be wrong, which counts first.
func (t *Table) layOut(fields []Field) (shape, api.Errno) {
	s := shape{align: 1}
	names := make(map[string]struct{}, len(fields))
	tooGreat := false
	for _, f := range fields {
		if _, isTwice := names[f.Name]; isTwice || !isName(f.Name) {
			return shape{}, api.ETYPE
		}
		names[f.Name] = struct{}{}
		size, align, e := t.Size(f.Type)
		if e == api.ETYPE {
			return shape{}, api.ETYPE
		}
		if e != api.OK || !s.put(f, size, align) {
			tooGreat = true
		}
	}
	s.size = roundUp(s.size, s.align)
	if tooGreat || s.size > api.MaxSize {
		return shape{}, api.ELIMIT
	}
	return s, api.OK
}

// put places a field behind the others, unless it would end above MaxSize: so that no sum of sizes runs over.
func (s *shape) put(f Field, size, align int) bool {
	offset := roundUp(s.size, align)
	if offset+size > api.MaxSize {
		return false
	}
	s.places = append(s.places, Place{Name: strings.Clone(f.Name), Type: strings.Clone(f.Type), Offset: offset})
	s.size = offset + size
	s.align = max(s.align, align)
	return true
}

// roundUp tells the least number not below n that align divides.
func roundUp(n, align int) int { return (n + align - 1) / align * align }
