package types

import (
	"fmt"
	"slices"
	"strconv"
	"strings"
	"testing"
	"unsafe"

	"plumbob/api"
)

var keywords = strings.Fields("char int long void struct public if else while break continue return sizeof in out")

// fields reads "char c; int[3] i": a type, a blank and a name for each field.
func fields(text string) []Field {
	var l []Field
	for _, f := range strings.Split(text, "; ") {
		i := strings.LastIndexByte(f, ' ')
		l = append(l, Field{Name: f[i+1:], Type: f[:i]})
	}
	return l
}

// of makes a struct; with an empty text, one without fields.
func of(name, text string) Struct {
	if text == "" {
		return Struct{Name: name}
	}
	return Struct{Name: name, Fields: fields(text)}
}

func made(t *testing.T, l ...Struct) *Table {
	t.Helper()
	x, n, e := New(l)
	if x == nil || n != 0 || e != api.OK {
		t.Fatalf("P6.1: New(%.80q): %v, %d, %d, want a table", l, x, n, e)
	}
	return x
}

func refused(t *testing.T, n int, e api.Errno, l ...Struct) {
	t.Helper()
	if x, gotN, gotE := New(l); x != nil || gotN != n || gotE != e {
		t.Errorf("P6.1: New(%.80q): %v, %d, %d, want none, %d, %d", l, x, gotN, gotE, n, e)
	}
}

func wantSize(t *testing.T, x *Table, typ string, size, align int, e api.Errno) {
	t.Helper()
	if s, a, gotE := x.Size(typ); s != size || a != align || gotE != e {
		t.Errorf("P6.1: Size(%.80q): %d, %d, %d, want %d, %d, %d", typ, s, a, gotE, size, align, e)
	}
}

// wantLayout holds a layout against "type name offset; ..".
func wantLayout(t *testing.T, x *Table, name, want string) {
	t.Helper()
	l, e := x.Layout(name)
	if got := told(l); got != want || e != api.OK {
		t.Errorf("P6.1: Layout(%q): %q, %d, want %q", name, got, e, want)
	}
}

func told(l []Place) string {
	var parts []string
	for _, p := range l {
		parts = append(parts, fmt.Sprint(p.Type, " ", p.Name, " ", p.Offset))
	}
	return strings.Join(parts, "; ")
}

func wantElem(t *testing.T, typ, want string) {
	t.Helper()
	if s, ok := Elem(typ); s != want || ok != (want != "") {
		t.Errorf("P6.1: Elem(%.80q): %q, %v, want %q", typ, s, ok, want)
	}
}

// wantNoType asks that a text is a type nowhere, whatever the table.
func wantNoType(t *testing.T, x *Table, typ string) {
	t.Helper()
	wantSize(t, x, typ, 0, 0, api.ETYPE)
	wantElem(t, typ, "")
	if x.Scalar(typ) {
		t.Errorf("P6.1: Scalar(%.80q)", typ)
	}
	for _, other := range []string{"int", typ} {
		for _, pair := range [][2]string{{typ, other}, {other, typ}} {
			if s, ok := Join(pair[0], pair[1]); s != "" || ok {
				t.Errorf("P6.1: Join(%.80q, %.80q): %q, %v", pair[0], pair[1], s, ok)
			}
		}
	}
	refused(t, 1, api.ETYPE, of("p", "int i"), Struct{"q", []Field{{"a", "int"}, {"b", typ}}})
}

func TestExamples(t *testing.T) {
	x := made(t, of("p", "char c; int i; char d; long l"))
	wantLayout(t, x, "p", "char c 0; int i 4; char d 8; long l 16")
	wantSize(t, x, "struct p", 24, 8, api.OK)
	wantSize(t, x, "int[5]", 20, 4, api.OK)
	wantElem(t, "char*[2]", "char*")
	if s, ok := Join("char", "char"); s != "int" || !ok {
		t.Errorf("P6.1: Join(char, char): %q, %v", s, ok)
	}
}

// someStructs has sizes that are no power of 2, and alignments of each kind.
func someStructs(t *testing.T) *Table {
	return made(t, of("p", "char c; int i; char d; long l"), of("odd", "char[5] c"), of("half", "int i; char c; char d"), of("int", "struct far* p"), of("far", "struct half[3] h; char c"))
}

func TestEachType(t *testing.T) {
	x := someStructs(t)
	for _, c := range []struct {
		base        string
		size, align int
	}{
		{"char", 1, 1}, {"int", 4, 4}, {"long", 8, 8}, {"struct p", 24, 8}, {"struct odd", 5, 1}, {"struct half", 8, 4}, {"struct int", 8, 8}, {"struct far", 28, 4}, {"void", 0, 0},
	} {
		for _, stars := range []string{"", "*", "**", "***", strings.Repeat("*", 1000)} {
			typ, size, align := c.base+stars, c.size, c.align
			if stars != "" {
				size, align = 8, 8
			}
			isScalar := stars != "" || slices.Contains([]string{"char", "int", "long"}, typ)
			if x.Scalar(typ) != isScalar {
				t.Errorf("P6.1: Scalar(%.80q) is not %v", typ, isScalar)
			}
			if stars != "" {
				wantElem(t, typ, typ[:len(typ)-1])
			} else {
				wantElem(t, typ, "")
			}
			if typ == "void" {
				wantSize(t, x, typ, 0, 0, api.ETYPE)
				wantNoType(t, x, "void[1]")
				continue
			}
			wantSize(t, x, typ, size, align, api.OK)
			for _, n := range []int{1, 2, 3, 7, 9, 10, 100, 999, 2048} {
				array := typ + "[" + strconv.Itoa(n) + "]"
				wantSize(t, x, array, n*size, align, api.OK)
				wantElem(t, array, typ)
				if x.Scalar(array) {
					t.Errorf("P6.1: Scalar(%.80q)", array)
				}
			}
		}
	}
}

func TestNoTypes(t *testing.T) {
	x := made(t, of("p", "int i"))
	for _, typ := range []string{
		"", " ", "*", "[", "]", "[]", "[3]", "*[3]", "0", "3",
		"float", "short", "Int", "INT", "ints", "in", "integer", "intint", "char int", "unsigned int", "int32", "p", "x*", "x[3]", "public int",
		" int", "int ", "\tint", "int\n", "int *", "int* ", "int* *", "* int", "*int", "i*nt", "int**x", "int*x*", "(int)", "int,", "int\x00", "\xffint", "int\u00a0",
		"int []", "int [3]", "int[ 3]", "int[3 ]", "int[3] ", " int[3]", "int* [3]", "int[1 2]",
		"int[]", "int[0]", "int[00]", "int[03]", "int[01]", "int[-1]", "int[+1]", "int[-0]", "int[0x3]", "int[1x]", "int[x]", "int[1.0]", "int[1e3]", "int[1_0]", "int[3", "int3]", "int[3]]", "int[[3]", "int[[3]]", "int]3[", "int(3)", "int{3}", "int[3*]", "int[*]", "int[\u0663]",
		"int[2][3]", "int[2][0]", "int[][3]", "int[2]*", "int*[2]*", "int[2]*[2]", "int[2]x", "int[3]int",
		"void[1]", "void[3]", "void[0]", "void[]", "void[99999999999999999999]", "void ", "voids", "void *",
		"struct", "struct ", "struct*", "struct *", "struct[3]", "struct [3]", "structp", "struct  p", "struct\tp", "struct\np", " struct p", "struct p ", "struct p *", "struct p [3]", "struct p* *", "struct p[0]", "struct p[]", "struct p[03]", "struct p[2][2]", "struct p[2]*",
		"struct 1", "struct 1p", "struct 1*", "struct p-", "struct p q", "struct p.i", "struct \u00e9", "struct p\x00", "struct struct p", "Struct p", "STRUCT p", "struct p,", "struct p;", "union p", "int p", "struct {int i;}",
		"struct " + strings.Repeat("x", api.MaxName+1), "struct " + strings.Repeat("x", api.MaxName+1) + "*",
		"int[0" + strings.Repeat("9", 50) + "]", "int[" + strings.Repeat("9", 50) + "x]", "int[" + strings.Repeat("9", 50), "int[" + strings.Repeat("0", 50) + "]", "x[99999999999999999999]",
	} {
		wantNoType(t, x, typ)
	}
}

func TestEachByteInATypeAndInNames(t *testing.T) {
	const letters = "abcdefghijklmnopqrstuvwxyzABCDEFGHIJKLMNOPQRSTUVWXYZ_"
	const digits = "0123456789"
	for b := range 256 {
		c := string([]byte{byte(b)})
		isLetter, isDigit := strings.Contains(letters, c), strings.Contains(digits, c)
		for name, isName := range map[string]bool{c: isLetter, "q" + c: isLetter || isDigit, c + "q": isLetter} {
			l := []Struct{{name, []Field{{"i", "int"}}}}
			inField := []Struct{{"p", []Field{{name, "int"}}}}
			if !isName {
				refused(t, 0, api.ETYPE, l...)
				refused(t, 0, api.ETYPE, inField...)
				// With a star or an array behind its name, the text may be a type of another struct.
				if c != "*" && c != "[" {
					wantElem(t, "struct "+name+"*", "")
				}
				continue
			}
			wantSize(t, made(t, l...), "struct "+name, 4, 4, api.OK)
			wantSize(t, made(t, l...), "struct "+name+"*[2]", 16, 8, api.OK)
			wantLayout(t, made(t, inField...), "p", "int "+name+" 0")
			wantElem(t, "struct "+name+"*", "struct "+name)
		}
		if c != "*" {
			wantNoType(t, made(t, of("p", "int i")), "int"+c)
			wantNoType(t, made(t, of("p", "int i")), "int"+c+"[2]")
		}
		if !isDigit {
			wantNoType(t, made(t, of("p", "int i")), "int[1"+c+"1]")
		}
		if !isDigit || c == "0" {
			wantNoType(t, made(t, of("p", "int i")), "int["+c+"]")
		}
	}
}

func TestNames(t *testing.T) {
	longest := strings.Repeat("aZ_9", api.MaxName/4)
	names := append([]string{"p", "_", "__", "P", "x9", "_1", longest, "main", "structs"}, keywords...)
	for _, name := range names {
		x := made(t, Struct{name, []Field{{"q", "char"}, {name, "struct " + name + "*"}}}, Struct{"user", []Field{{name, "struct " + name + "[2]"}}})
		wantSize(t, x, "struct "+name, 16, 8, api.OK)
		wantSize(t, x, "struct "+name+"[3]", 48, 8, api.OK)
		wantSize(t, x, "struct "+name+"**", 8, 8, api.OK)
		wantLayout(t, x, name, "char q 0; struct "+name+"* "+name+" 8")
		wantLayout(t, x, "user", "struct "+name+"[2] "+name+" 0")
		wantSize(t, x, "struct user", 32, 8, api.OK)
		wantElem(t, "struct "+name+"[2]", "struct "+name)
		if x.Scalar("struct "+name) || !x.Scalar("struct "+name+"*") {
			t.Errorf("P6.1: Scalar of struct %s, or of a pointer to it", name)
		}
		// Names with other letters are others.
		if upper := strings.ToUpper(name); upper != name {
			wantSize(t, x, "struct "+upper, 0, 0, api.ETYPE)
		}
	}
	for _, name := range []string{"", " ", " p", "p ", "p q", "1", "9p", "p-q", "p*", "p[2]", "*", "struct p", "\u00e9", "p\u00e9", "\xff", "p\x00", "p\n", "a.b", longest + "x", strings.Repeat("q", 5000)} {
		refused(t, 0, api.ETYPE, Struct{name, []Field{{"i", "int"}}})
		refused(t, 1, api.ETYPE, of("a", "int i"), Struct{name, []Field{{"i", "int"}}})
		refused(t, 0, api.ETYPE, Struct{"p", []Field{{name, "int"}}})
		refused(t, 0, api.ETYPE, Struct{"p", []Field{{"a", "int"}, {name, "int"}}})
		// That a name is in the list makes it none.
		refused(t, 0, api.ETYPE, Struct{"p", []Field{{"a", "struct " + name + " *"}}}, Struct{name, []Field{{"i", "int"}}})
	}
}

func TestLayouts(t *testing.T) {
	x := made(t,
		of("c", "char c"), of("i", "int i"), of("l", "long l"), of("v", "void* v"),
		of("ci", "char c; int i"), of("ic", "int i; char c"), of("cl", "char c; long l"), of("lc", "long l; char c"), of("cv", "char c; void* v"),
		of("ccc", "char a; char b; char c"), of("cil", "char c; int i; long l"), of("lic", "long l; int i; char c"), of("cic", "char a; int b; char c"),
		of("a3", "char[3] a"), of("a3i", "char[3] a; int i"), of("a5i", "char a; char[5] b; int[2] c; char d"), of("i3l", "int[3] i; long l"), of("ap", "char c; char*[2] p; char d"),
		of("nest", "char c; struct ci s; char d"), of("nest3", "char c; struct a3 s; char d; struct lc t; char e"), of("many", "char c; struct ic[3] s; char[2] d; struct a3[2] t; struct nest n"),
		of("deep", "struct many[2] m; char c"), of("self", "char c; struct self* s; struct self*[2] t; struct last* l; struct last**[3] m; int i"), of("last", "struct self s; char c"),
	)
	for _, c := range []struct {
		name, places string
		size, align  int
	}{
		{"c", "char c 0", 1, 1}, {"i", "int i 0", 4, 4}, {"l", "long l 0", 8, 8}, {"v", "void* v 0", 8, 8},
		{"ci", "char c 0; int i 4", 8, 4}, {"ic", "int i 0; char c 4", 8, 4}, {"cl", "char c 0; long l 8", 16, 8}, {"lc", "long l 0; char c 8", 16, 8}, {"cv", "char c 0; void* v 8", 16, 8},
		{"ccc", "char a 0; char b 1; char c 2", 3, 1}, {"cil", "char c 0; int i 4; long l 8", 16, 8}, {"lic", "long l 0; int i 8; char c 12", 16, 8}, {"cic", "char a 0; int b 4; char c 8", 12, 4},
		{"a3", "char[3] a 0", 3, 1}, {"a3i", "char[3] a 0; int i 4", 8, 4}, {"a5i", "char a 0; char[5] b 1; int[2] c 8; char d 16", 20, 4}, {"i3l", "int[3] i 0; long l 16", 24, 8}, {"ap", "char c 0; char*[2] p 8; char d 24", 32, 8},
		{"nest", "char c 0; struct ci s 4; char d 12", 16, 4}, {"nest3", "char c 0; struct a3 s 1; char d 4; struct lc t 8; char e 24", 32, 8}, {"many", "char c 0; struct ic[3] s 4; char[2] d 28; struct a3[2] t 30; struct nest n 36", 52, 4},
		{"deep", "struct many[2] m 0; char c 104", 108, 4}, {"self", "char c 0; struct self* s 8; struct self*[2] t 16; struct last* l 32; struct last**[3] m 40; int i 64", 72, 8}, {"last", "struct self s 0; char c 72", 80, 8},
	} {
		wantLayout(t, x, c.name, c.places)
		wantSize(t, x, "struct "+c.name, c.size, c.align, api.OK)
		wantSize(t, x, "struct "+c.name+"[7]", 7*c.size, c.align, api.OK)
	}
}

func TestLayoutOfNone(t *testing.T) {
	for _, x := range []*Table{made(t), made(t, of("p", "struct q* i; int f"), of("q", "int i"))} {
		for _, name := range []string{"", " ", "r", "P", "i", "f", "int", "struct", "struct p", "struct q", "p*", "p ", " p", "pp", "0", "p[1]"} {
			if l, e := x.Layout(name); l != nil || e != api.ENONE {
				t.Errorf("P6.1: Layout(%q): %v, %d, want none, ENONE", name, l, e)
			}
		}
	}
}

func TestNoStructs(t *testing.T) {
	for _, l := range [][]Struct{nil, {}, make([]Struct, 0, 3)} {
		x := made(t, l...)
		wantSize(t, x, "int", 4, 4, api.OK)
		wantSize(t, x, "void**[2]", 16, 8, api.OK)
		for _, typ := range []string{"struct p", "struct p*", "struct p[2]", "struct p**[2]", "struct int*"} {
			wantSize(t, x, typ, 0, 0, api.ETYPE)
			if x.Scalar(typ) {
				t.Errorf("P6.1: Scalar(%q)", typ)
			}
		}
	}
}

func TestStructsThatTheTableHasNot(t *testing.T) {
	x := made(t, of("p", "int i"))
	for _, typ := range []string{"struct n", "struct n[2]", "struct n*", "struct n**", "struct n*[2]", "struct P*", "struct pp*", "struct i*", "struct n[99999999999999999999]", "struct n*[99999999999999999999]", "struct n[65537]"} {
		wantSize(t, x, typ, 0, 0, api.ETYPE)
		if x.Scalar(typ) {
			t.Errorf("P6.1: Scalar(%q)", typ)
		}
		refused(t, 1, api.ETYPE, of("p", "int i"), Struct{"q", []Field{{"a", typ}}})
	}
	// Elem does not look them up.
	wantElem(t, "struct n", "")
	wantElem(t, "struct n*", "struct n")
	wantElem(t, "struct n[2]", "struct n")
	wantElem(t, "struct n**[2]", "struct n**")
	wantElem(t, "struct n*[99999999999999999999]", "struct n*")
}

func TestMaxSizeOfTypes(t *testing.T) {
	l := []Struct{of("odd", "char[3] c"), of("whole", "char[65536] c"), of("half", "long[4096] l")}
	x := made(t, l...)
	huge := "9" + strings.Repeat("0", 3000)
	for _, c := range []struct {
		base        string
		size, align int
	}{
		{"char", 1, 1}, {"int", 4, 4}, {"long", 8, 8}, {"void*", 8, 8}, {"struct odd", 3, 1}, {"struct odd*", 8, 8}, {"struct whole", 65536, 1}, {"struct half", 32768, 8}, {"char**", 8, 8},
	} {
		most := api.MaxSize / c.size
		wantSize(t, x, c.base+"["+strconv.Itoa(most)+"]", most*c.size, c.align, api.OK)
		for _, n := range []string{
			strconv.Itoa(most + 1), strconv.Itoa(10*most + 9), "65537", "65538", "99999", "100000", "655360", "655361", "2147483647", "2147483648", "4294967295", "4294967296", "4294967297", "1073741825", "536870913",
			"9223372036854775807", "9223372036854775808", "18446744073709551615", "18446744073709551616", "18446744073709551617", "4611686018427387905", "2305843009213693953", "99999999999999999999999", huge,
		} {
			typ := c.base + "[" + n + "]"
			wantSize(t, x, typ, 0, 0, api.ELIMIT)
			wantElem(t, typ, c.base)
			if x.Scalar(typ) {
				t.Errorf("P6.1: Scalar(%.80q)", typ)
			}
			refused(t, 3, api.ELIMIT, append(slices.Clone(l), Struct{"q", []Field{{"a", "char"}, {"b", typ}, {"c", "long"}}})...)
		}
	}
}

func TestMaxSizeOfStructs(t *testing.T) {
	before := []Struct{of("a", "char c"), of("whole", "char[65536] c"), of("l", "long l; char c")}
	for _, text := range []string{"char[65536] c", "char[65535] c; char d", "long l; char[65528] c", "long l; char[65521] c", "char[65528] c; long l", "char[65521] c; long l", "int[16384] i", "int[16383] i; char c", "int[16383] i; int j", "char*[8191] p; char c", "struct whole w", "struct l[4095] l; char*[2] p", "struct l[4096] l", "long[8191] l; int i; char[4] c", "long[8191] l; char c; int i"} {
		x := made(t, append(slices.Clone(before), of("b", text))...)
		if size, _, e := x.Size("struct b"); size != api.MaxSize || e != api.OK {
			t.Errorf("P6.1: Size of struct {%s}: %d, %d", text, size, e)
		}
		wantSize(t, x, "struct b[2]", 0, 0, api.ELIMIT)
	}
	for _, text := range []string{"char[65537] c", "char[65536] c; char d", "char c; char[65536] d", "long l; char[65529] c", "char[65529] c; long l", "int[16384] i; char c", "char c; int[16384] i", "char c; char*[8192] p", "char c; struct whole w", "struct whole w; char c", "struct l[4096] l; char c", "char c; struct l[4096] l", "struct l[4097] l", "long[8191] l; int i; char c; int j", "struct whole[2] w", "struct whole w; struct whole v", "char[65535] c; int i", "char[65533] c; int i", "char[99999999999999999999] c; int i"} {
		refused(t, 3, api.ELIMIT, append(slices.Clone(before), of("b", text), of("c", "int i"))...)
	}
	// Sums and products that pass 2^32 and 2^64 do not come round.
	for _, typ := range []string{"struct whole[65535]", "struct whole[65536]", "struct whole[281474976710656]", "long[2305843009213693952]", "int[1073741824]"} {
		wantSize(t, made(t, before...), typ, 0, 0, api.ELIMIT)
		refused(t, 3, api.ELIMIT, append(slices.Clone(before), of("b", typ+" x; "+typ+" y; "+typ+" z; "+typ+" c; int i"))...)
	}
}

func TestWrongStructs(t *testing.T) {
	good := of("a", "int i")
	for _, wrong := range []Struct{
		of("a", "int i"), of("a", "char c; long l"), of("b", ""), {Name: "b", Fields: []Field{}}, {Name: "b", Fields: make([]Field, 0, 2)},
		of("b", "int x; int x"), of("b", "int x; char y; long* x"), of("b", "int x; int y; int z; int y"),
		of("b", "void v"), of("b", "int x; void v"), of("b", "void[2] v"), of("b", "int[0] x"), of("b", "int[] x"), of("b", "int[-1] x"), of("b", "float f"),
		of("b", "struct b b"), of("b", "struct b[2] b"), of("b", "struct b* p; struct b b"), of("b", "struct c c"), of("b", "struct c[2] c"), of("b", "struct c* p; struct c[2] c"), of("b", "struct n n"), of("b", "struct n* n"), of("b", "struct n**[3] n"),
		{Name: "b", Fields: []Field{{}}}, {}, {Name: "b", Fields: []Field{{Name: "x"}}}, {Name: "b", Fields: []Field{{Type: "int"}}},
	} {
		refused(t, 1, api.ETYPE, good, wrong, of("c", "int i"))
		refused(t, 2, api.ETYPE, good, of("z", "struct a a"), wrong, of("c", "int i"))
	}
	// A name that is there already need not stand straight ahead; those of fields are each struct's own.
	refused(t, 3, api.ETYPE, good, of("b", "int i"), of("c", "int i"), of("b", "int i"))
	made(t, good, of("b", "int a; int b"), of("c", "int a; int b; struct a c"))
}

func TestWhatAPointerMayPointTo(t *testing.T) {
	x := made(t, of("a", "struct c* p; struct a** q; struct b*[2] r"), of("b", "struct a a"), of("c", "struct b b; struct a[2] a"))
	wantSize(t, x, "struct a", 32, 8, api.OK)
	wantSize(t, x, "struct c", 96, 8, api.OK)
	// To one that is wrong itself: that one is the first wrong one.
	refused(t, 1, api.ETYPE, of("a", "struct b* p"), of("b", ""))
	refused(t, 1, api.ELIMIT, of("a", "struct b* p"), of("b", "char[65537] c"))
	refused(t, 2, api.ETYPE, of("a", "struct b* p"), of("b", "int i"), of("b", "int i"))
	refused(t, 0, api.ETYPE, of("a", "struct c* p"), of("b", "int i"))
}

func TestTheFirstOfSeveralWrongStructs(t *testing.T) {
	good, wrong, great := of("a", "int i"), of("b", "void v"), of("c", "char[65537] c")
	refused(t, 0, api.ETYPE, wrong, great)
	refused(t, 0, api.ELIMIT, great, wrong)
	refused(t, 1, api.ETYPE, good, wrong, great, wrong)
	refused(t, 1, api.ELIMIT, good, great, wrong, wrong)
	refused(t, 1, api.ELIMIT, good, great, great, good)
	// One that is refused has no size for those behind; but it is told of first.
	refused(t, 0, api.ELIMIT, great, of("d", "struct c c"))
	refused(t, 0, api.ETYPE, wrong, of("d", "struct b b"))
}

func TestBothWrongAndTooGreat(t *testing.T) {
	for _, text := range []string{
		"char[65537] c; void v", "void v; char[65537] c", "char[65536] c; char d; struct n* n", "char[65537] c; int c", "char[99999999999999999999] c; float f", "char[65537] c; int[0] i", "char[65537] c; struct b b", "char[65536] c; char[65536] d; struct b[2] e", "char[65537] c; int 1",
		"struct n[99999999999999999999] n", "struct b[99999999999999999999] b", "void[99999999999999999999] v",
	} {
		refused(t, 1, api.ETYPE, of("a", "int i"), of("b", text))
	}
	refused(t, 1, api.ETYPE, of("a", "int i"), of("a", "char[65537] c"))
	refused(t, 0, api.ETYPE, of("1", "char[65537] c"))
	refused(t, 0, api.ETYPE, Struct{"b", []Field{{"c", "char[65537]"}, {"", "int"}}})
}

func TestScalar(t *testing.T) {
	x := made(t, of("p", "int i"), of("int", "int i"))
	for typ, want := range map[string]bool{
		"char": true, "int": true, "long": true, "void": false, "struct p": false, "struct int": false,
		"char*": true, "int*": true, "long*": true, "void*": true, "struct p*": true, "struct int*": true, "int***": true, "void**": true,
		"int[1]": false, "char[2]": false, "int*[2]": false, "struct p[2]": false, "struct p*[2]": false, "void*[3]": false, "char[65537]": false,
		"struct n": false, "struct n*": false, "struct n**": false, "struct n[2]": false, "p": false, "p*": false, "*": false, "": false, "int *": false, "int[2]*": false, "struct": false, "struct*": false,
	} {
		if x.Scalar(typ) != want {
			t.Errorf("P6.1: Scalar(%q) is not %v", typ, want)
		}
	}
}

func TestElem(t *testing.T) {
	for typ, want := range map[string]string{
		"char*[2]": "char*", "char[2]": "char", "char**": "char*", "char*": "char", "char": "", "int": "", "long": "", "void": "", "void*": "void", "void**": "void*", "void*[3]": "void*", "void[3]": "",
		"struct p": "", "struct p*": "struct p", "struct p[1]": "struct p", "struct p**[12]": "struct p**", "struct int*": "struct int", "struct struct[2]": "struct struct", "struct void[2]": "struct void",
		"long[65536]": "long", "int[2147483648]": "int", "int[18446744073709551616]": "int", "int[18446744073709551617]": "int",
		"": "", "*": "", "[2]": "", "x*": "", "x[2]": "", "int[0]": "", "int[]": "", "int[01]": "", "int [2]": "", "int *": "", "int[2]*": "", "int[2][2]": "", "struct*": "", "struct *": "", "struct[2]": "", "struct 1*": "",
	} {
		wantElem(t, typ, want)
	}
}

func TestJoin(t *testing.T) {
	for _, c := range []struct{ a, b, want string }{
		{"char", "char", "int"}, {"char", "int", "int"}, {"char", "long", "long"}, {"int", "char", "int"}, {"int", "int", "int"}, {"int", "long", "long"}, {"long", "char", "long"}, {"long", "int", "long"}, {"long", "long", "long"},
	} {
		if s, ok := Join(c.a, c.b); s != c.want || !ok {
			t.Errorf("P6.1: Join(%s, %s): %q, %v, want %s", c.a, c.b, s, ok, c.want)
		}
	}
	others := []string{"", "void", "void*", "int*", "char*", "long*", "int[2]", "char[1]", "long[2]", "struct p", "struct p*", "struct int", "struct long", "x", "Int", "int ", " long", "long ", "short", "longlong"}
	for _, a := range others {
		for _, b := range append([]string{"char", "int", "long"}, others...) {
			for _, pair := range [][2]string{{a, b}, {b, a}} {
				if s, ok := Join(pair[0], pair[1]); s != "" || ok {
					t.Errorf("P6.1: Join(%q, %q): %q, %v", pair[0], pair[1], s, ok)
				}
			}
		}
	}
}

func TestWhatIsHandedInIsNotChangedAndNotKept(t *testing.T) {
	spare := []Struct{of("p", "char c; int i"), {Name: "q", Fields: append(make([]Field, 0, 4), Field{"p", "struct p"}, Field{"r", "struct p*"})}, of("rest", "void v")}
	want := []Struct{of("p", "char c; int i"), of("q", "struct p p; struct p* r"), of("rest", "void v")}
	l := spare[:2]
	x := made(t, l...)
	same := slices.EqualFunc(spare, want, func(a, b Struct) bool { return a.Name == b.Name && slices.Equal(a.Fields, b.Fields) })
	if !same || !slices.Equal(spare[1].Fields[2:4], make([]Field, 2)) {
		t.Errorf("R4: the list was changed: %v", spare)
	}
	l[0].Fields[0], l[0].Fields[1] = Field{"x", "void"}, Field{"x", "void"}
	l[1].Fields[0].Name = "y"
	l[0].Name, l[1] = "z", Struct{}
	wantLayout(t, x, "p", "char c 0; int i 4")
	wantLayout(t, x, "q", "struct p p 0; struct p* r 8")
	wantSize(t, x, "struct q", 16, 8, api.OK)
	wantSize(t, x, "struct z", 0, 0, api.ETYPE)
}

func TestLayoutsAreNewMemory(t *testing.T) {
	x := made(t, of("p", "char c; int i; long l"), of("q", "char c; int i; long l"))
	first, _ := x.Layout("p")
	again, _ := x.Layout("p")
	for i := range first[:cap(first)] {
		first[:cap(first)][i] = Place{"gone", "void", -1}
	}
	if got := told(again); got != "char c 0; int i 4; long l 8" {
		t.Errorf("R4: two answers share memory: %s", got)
	}
	wantLayout(t, x, "p", "char c 0; int i 4; long l 8")
	wantLayout(t, x, "q", "char c 0; int i 4; long l 8")
	wantSize(t, x, "struct p", 16, 8, api.OK)
	_ = append(again, Place{"more", "int", 9})
	wantLayout(t, x, "q", "char c 0; int i 4; long l 8")
}

func lies(part, whole string) bool {
	first := uintptr(unsafe.Pointer(unsafe.StringData(whole)))
	return uintptr(unsafe.Pointer(unsafe.StringData(part)))-first < uintptr(len(whole))
}

func TestTextsAreNewMemory(t *testing.T) {
	for _, typ := range []string{strings.Clone("char*[2]"), strings.Clone("struct some*")} {
		if s, ok := Elem(typ); !ok || lies(s, typ) {
			t.Errorf("R4: Elem(%q) lies in it", typ)
		}
	}
	name, field, typ := strings.Clone("some"), strings.Clone("field"), strings.Clone("struct some*")
	x := made(t, Struct{name, []Field{{field, typ}}})
	l, _ := x.Layout("some")
	if len(l) != 1 || lies(l[0].Name, field) || lies(l[0].Type, typ) {
		t.Errorf("R4: Layout tells the texts that New was handed: %v", l)
	}
	for kept := range x.numbers {
		if lies(kept, name) {
			t.Errorf("R4: the table keeps the name that New was handed")
		}
	}
}

// A table answers alike whatever it was asked before, and a refusal leaves nothing behind.
func TestTablesAreApart(t *testing.T) {
	a, b := made(t, of("p", "char c")), made(t, of("p", "long l"), of("q", "struct p p; int i"))
	for range 3 {
		wantSize(t, a, "struct p", 1, 1, api.OK)
		wantSize(t, b, "struct p", 8, 8, api.OK)
		wantSize(t, a, "struct q*", 0, 0, api.ETYPE)
		wantSize(t, b, "struct q", 16, 8, api.OK)
		wantSize(t, b, "struct q[9999]", 0, 0, api.ELIMIT)
		if l, e := a.Layout("q"); l != nil || e != api.ENONE {
			t.Errorf("P6.1: Layout(q): %v, %d", l, e)
		}
		refused(t, 1, api.ETYPE, of("q", "int i"), of("p", ""))
	}
}

func TestManyAndLong(t *testing.T) {
	var chars []Field
	var l []Struct
	for i := range api.MaxSize {
		chars = append(chars, Field{"c" + strconv.Itoa(i), "char"})
	}
	x := made(t, Struct{"wide", chars})
	wantSize(t, x, "struct wide", api.MaxSize, 1, api.OK)
	if places, _ := x.Layout("wide"); len(places) != api.MaxSize || places[api.MaxSize-1] != (Place{"c65535", "char", api.MaxSize - 1}) {
		t.Errorf("P6.1: Layout of %d fields: %d", api.MaxSize, len(places))
	}
	refused(t, 0, api.ELIMIT, Struct{"wide", append(slices.Clone(chars), Field{"one", "char"})})
	refused(t, 0, api.ETYPE, Struct{"wide", append(slices.Clone(chars), Field{"c0", "char"})})
	l = append(l, of("s0", "char c"))
	for i := 1; i < 30000; i++ {
		l = append(l, of("s"+strconv.Itoa(i), "struct s"+strconv.Itoa(i-1)+" s; struct s29999* p"))
		if i > 4000 {
			l[i].Fields[0].Type = "struct s" + strconv.Itoa(i%4000)
		}
	}
	x = made(t, l...)
	wantSize(t, x, "struct s4000", 8*4001, 8, api.OK)
	refused(t, 30000, api.ETYPE, append(l, l[0])...)
	stars := strings.Repeat("*", 1000000)
	wantSize(t, x, "struct s1"+stars+"[2]", 16, 8, api.OK)
	wantElem(t, "void"+stars, "void"+stars[1:])
	wantNoType(t, x, "void"+stars+"[1]"+stars)
	wantSize(t, x, "int["+strings.Repeat("9", 1000000)+"]", 0, 0, api.ELIMIT)
	wantNoType(t, x, "int["+strings.Repeat("[", 1000000))
}
