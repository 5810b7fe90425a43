package types

import (
	"math/big"
	"math/rand"
	"regexp"
	"slices"
	"strconv"
	"strings"
	"testing"

	"plumbob/api"
)

// The model reads types by a pattern, reckons with numbers of any length, and finds places byte by byte, as the chapter's words go.

var (
	typeForm = regexp.MustCompile(`^(char|int|long|void|struct ([a-zA-Z_][a-zA-Z_0-9]{0,39}))(\**)(?:\[([1-9][0-9]*)\])?$`)
	nameForm = regexp.MustCompile(`^[a-zA-Z_][a-zA-Z_0-9]{0,39}$`)
)

type modelShape struct {
	name        string
	places      []Place
	size, align int
}

func modelForm(typ string) []string {
	m := typeForm.FindStringSubmatch(typ)
	if m != nil && m[1] == "void" && m[3] == "" && m[4] != "" {
		return nil
	}
	return m
}

// modelSize looks among structs that are laid out; names are those that a pointer may be to.
func modelSize(typ string, laid []modelShape, names []string) (size, align int, e api.Errno) {
	m := modelForm(typ)
	if m == nil || m[2] != "" && !slices.Contains(names, m[2]) {
		return 0, 0, api.ETYPE
	}
	switch m[1] {
	case "char":
		size, align = 1, 1
	case "int":
		size, align = 4, 4
	case "long":
		size, align = 8, 8
	}
	for _, s := range laid {
		if m[2] == s.name {
			size, align = s.size, s.align
		}
	}
	if m[3] != "" {
		size, align = 8, 8
	}
	if size == 0 {
		return 0, 0, api.ETYPE
	}
	n, ok := new(big.Int).SetString(m[4], 10)
	if !ok {
		n = big.NewInt(1)
	}
	n.Mul(n, big.NewInt(int64(size)))
	if n.Cmp(big.NewInt(api.MaxSize)) > 0 {
		return 0, 0, api.ELIMIT
	}
	return int(n.Int64()), align, api.OK
}

func isModelWrong(s Struct, laid []modelShape, names []string) bool {
	if !nameForm.MatchString(s.Name) || len(s.Fields) == 0 {
		return true
	}
	for _, other := range laid {
		if other.name == s.Name {
			return true
		}
	}
	for i, f := range s.Fields {
		for _, g := range s.Fields[:i] {
			if f.Name == g.Name {
				return true
			}
		}
		if _, _, e := modelSize(f.Type, laid, names); e == api.ETYPE || !nameForm.MatchString(f.Name) {
			return true
		}
	}
	return false
}

func modelLayOut(s Struct, laid []modelShape, names []string) (modelShape, bool) {
	out := modelShape{name: s.Name, align: 1}
	end := 0
	for _, f := range s.Fields {
		size, align, e := modelSize(f.Type, laid, names)
		if e != api.OK {
			return modelShape{}, false
		}
		for end%align != 0 {
			end++
		}
		out.places = append(out.places, Place{f.Name, f.Type, end})
		end += size
		out.align = max(out.align, align)
	}
	for end%out.align != 0 {
		end++
	}
	out.size = end
	return out, end <= api.MaxSize
}

func modelNew(l []Struct) (laid []modelShape, n int, e api.Errno) {
	var names []string
	for _, s := range l {
		names = append(names, s.Name)
	}
	for i, s := range l {
		if isModelWrong(s, laid, names) {
			return nil, i, api.ETYPE
		}
		m, ok := modelLayOut(s, laid, names)
		if !ok {
			return nil, i, api.ELIMIT
		}
		laid = append(laid, m)
	}
	return laid, 0, api.OK
}

func pick(r *rand.Rand, l ...string) string { return l[r.Intn(len(l))] }

// anyType is mostly a type, and mostly one of the structs a to d.
func anyType(r *rand.Rand) string {
	base := pick(r, "char", "int", "long", "char", "int", "long", "void*", "struct a", "struct a", "struct b", "struct c", "struct d*")
	if r.Intn(100) == 0 {
		base = pick(r, "void", "struct n", "struct n*", "struct 1", "struct", "x", "", " int", "struct  a")
	}
	base += strings.Repeat("*", r.Intn(2)*r.Intn(3))
	switch r.Intn(40) {
	case 0:
		base += pick(r, "[0]", "[]", "[03]", "[2][2]", "[2]*", " ", "[x]", "[-1]", "[2", "[2] ")
	case 1:
		base += pick(r, "[8192]", "[8191]", "[65536]", "[65537]", "[16384]", "[18446744073709551617]", "[4294967297]", "[2305843009213693953]")
	case 2, 3, 4, 5, 6, 7, 8, 9:
		base += "[" + strconv.Itoa(1+r.Intn(12)) + "]"
	case 10:
		base += "[" + strconv.Itoa(1+r.Intn(40000)) + "]"
	}
	return base
}

func anyStructs(r *rand.Rand) []Struct {
	var l []Struct
	for _, name := range []string{"a", "b", "c", "d"}[:r.Intn(5)] {
		if r.Intn(60) == 0 {
			name = pick(r, "a", "b", "", "1", "a b", "int")
		}
		s := Struct{Name: name}
		for i := range r.Intn(30) % 7 {
			field := "f" + strconv.Itoa(i)
			if r.Intn(200) == 0 {
				field = pick(r, "f0", "", "1", "f 0", "while")
			}
			s.Fields = append(s.Fields, Field{field, anyType(r)})
		}
		l = append(l, s)
	}
	return l
}

func holdTable(t *testing.T, x *Table, laid []modelShape, typ string) {
	t.Helper()
	var names []string
	for _, s := range laid {
		names = append(names, s.name)
		places, e := x.Layout(s.name)
		if e != api.OK || !slices.Equal(places, s.places) {
			t.Errorf("P6.1: Layout(%s): %v, %d, want %v", s.name, places, e, s.places)
		}
		wantSize(t, x, "struct "+s.name, s.size, s.align, api.OK)
	}
	size, align, e := modelSize(typ, laid, names)
	wantSize(t, x, typ, size, align, e)
	m := modelForm(typ)
	isScalar := e == api.OK && m[4] == "" && (m[3] != "" || m[2] == "")
	if x.Scalar(typ) != isScalar {
		t.Errorf("P6.1: Scalar(%q) is not %v", typ, isScalar)
	}
	elem := ""
	if m != nil && m[4] != "" {
		elem = m[1] + m[3]
	} else if m != nil && m[3] != "" {
		elem = m[1] + m[3][1:]
	}
	wantElem(t, typ, elem)
}

func TestAgainstModel(t *testing.T) {
	r := rand.New(rand.NewSource(6))
	count := map[api.Errno]int{}
	for range 40000 {
		l := anyStructs(r)
		laid, n, e := modelNew(l)
		count[e]++
		if e != api.OK {
			refused(t, n, e, l...)
		} else {
			x := made(t, l...)
			for range 5 {
				holdTable(t, x, laid, anyType(r))
			}
		}
		if t.Failed() {
			t.Fatalf("of the structs %q", l)
		}
	}
	if count[api.OK] < 4000 || count[api.ETYPE] < 4000 || count[api.ELIMIT] < 400 {
		t.Errorf("%v: too few of one kind to tell much", count)
	}
}

func FuzzType(f *testing.F) {
	f.Add("struct p**[12]")
	f.Add("void*")
	f.Add("int[65537]")
	l := []Struct{of("p", "char c; int i; char d; long l"), of("int", "struct p[3] p; char c")}
	laid, _, _ := modelNew(l)
	f.Fuzz(func(t *testing.T, typ string) {
		holdTable(t, made(t, l...), laid, typ)
	})
}
