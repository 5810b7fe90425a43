package lex

import (
	"math/rand"
	"regexp"
	"slices"
	"strconv"
	"strings"
	"testing"
	"unsafe"

	"plumbob/api"
)

func at(line, col int) api.Pos { return api.Pos{Line: line, Col: col} }

// collect ranges over Each, and holds the numbers beside the words against 0, 1, ...
func collect(t *testing.T, text string) []Word {
	t.Helper()
	var l []Word
	for i, w := range Each(text) {
		if i != len(l) {
			t.Fatalf("P4.2: Each(%.60q): the number %d beside the word %d", text, i, len(l))
		}
		l = append(l, w)
	}
	return l
}

// taken asks that a text is taken, with these words, by Words and by Each.
func taken(t *testing.T, text string, want []Word) {
	t.Helper()
	l, place, e := Words(text)
	if e != api.OK || place != (api.Pos{}) || !slices.Equal(l, want) {
		t.Errorf("P4.1: Words(%.60q): %v, %v, %d, want %v", text, l, place, e, want)
	}
	if l := collect(t, text); !slices.Equal(l, want) {
		t.Errorf("P4.2: Each(%.60q): %v, want %v", text, l, want)
	}
}

// refused asks that a text is ELEX at a place, and that Each gives the words ahead of it.
func refused(t *testing.T, text string, place api.Pos, ahead []Word) {
	t.Helper()
	l, p, e := Words(text)
	if e != api.ELEX || p != place || len(l) != 0 {
		t.Errorf("P4.1: Words(%.60q): %v, %v, %d, want none, %v, ELEX", text, l, p, e, place)
	}
	if l := collect(t, text); !slices.Equal(l, ahead) {
		t.Errorf("P4.2: Each(%.60q): %v, want %v", text, l, ahead)
	}
}

func TestExamples(t *testing.T) {
	taken(t, "a1 >>= 0x1F", []Word{{Name, "a1", 0, at(1, 1)}, {Mark, ">>", 0, at(1, 4)}, {Mark, "=", 0, at(1, 6)}, {Number, "0x1F", 31, at(1, 8)}})
	refused(t, "1a", at(1, 1), nil)
	refused(t, "@", at(1, 1), nil)
	refused(t, "/* x", at(1, 1), nil)
}

func TestProgram(t *testing.T) {
	taken(t, "int f(long*p){\n\treturn p[0x10]&&~7; // seven\n}\n", []Word{
		{Key, "int", 0, at(1, 1)}, {Name, "f", 0, at(1, 5)}, {Mark, "(", 0, at(1, 6)}, {Key, "long", 0, at(1, 7)}, {Mark, "*", 0, at(1, 11)}, {Name, "p", 0, at(1, 12)}, {Mark, ")", 0, at(1, 13)}, {Mark, "{", 0, at(1, 14)},
		{Key, "return", 0, at(2, 2)}, {Name, "p", 0, at(2, 9)}, {Mark, "[", 0, at(2, 10)}, {Number, "0x10", 16, at(2, 11)}, {Mark, "]", 0, at(2, 15)}, {Mark, "&&", 0, at(2, 16)}, {Mark, "~", 0, at(2, 18)}, {Number, "7", 7, at(2, 19)}, {Mark, ";", 0, at(2, 20)},
		{Mark, "}", 0, at(3, 1)},
	})
}

func TestNoWords(t *testing.T) {
	for _, text := range []string{
		"", " ", "\t", "\r", "\n", " \t\r\n\n", "//", "// x", "//\n", "// /*", "// /* x\n", "/**/", "/***/", "/* // */", "/* /* */", "/*/*/", "/*\n\n*/", "/**//**/ //", "// \x00@\xff", "/* \x00@\xff\" */",
	} {
		taken(t, text, nil)
	}
}

func TestNames(t *testing.T) {
	letters := "abcdefghijklmnopqrstuvwxyzABCDEFGHIJKLMNOPQRSTUVWXYZ_"
	for _, b := range letters {
		taken(t, string(b), []Word{{Name, string(b), 0, at(1, 1)}})
	}
	for _, b := range letters + "0123456789" {
		text := "_" + string(b)
		taken(t, text, []Word{{Name, text, 0, at(1, 1)}})
	}
	longest := strings.Repeat("aZ_9", api.MaxName/4)
	taken(t, longest, []Word{{Name, longest, 0, at(1, 1)}})
	taken(t, "\n"+longest+"+"+longest, []Word{{Name, longest, 0, at(2, 1)}, {Mark, "+", 0, at(2, 41)}, {Name, longest, 0, at(2, 42)}})
	refused(t, longest+"x", at(1, 1), nil)
	refused(t, "a\n  "+longest+"0;", at(2, 3), []Word{{Name, "a", 0, at(1, 1)}})
	refused(t, strings.Repeat("q", api.MaxText), at(1, 1), nil)
}

func TestKeywords(t *testing.T) {
	for _, k := range strings.Fields("char int long void struct public if else while break continue return sizeof in out") {
		taken(t, k, []Word{{Key, k, 0, at(1, 1)}})
		taken(t, "\t"+k+";", []Word{{Key, k, 0, at(1, 2)}, {Mark, ";", 0, at(1, 2+len(k))}})
		for _, name := range []string{k + "_", k + "0", k + "x", "x" + k, "_" + k, strings.ToUpper(k), k + k, strings.ToUpper(k[:1]) + k[1:]} {
			taken(t, name, []Word{{Name, name, 0, at(1, 1)}})
		}
		for n := 1; n < len(k); n++ {
			if part := k[:n]; part != "in" {
				taken(t, part, []Word{{Name, part, 0, at(1, 1)}})
			}
		}
	}
	for _, name := range []string{"for", "unsigned", "short", "goto", "do", "static", "main", "inn", "into", "outer"} {
		taken(t, name, []Word{{Name, name, 0, at(1, 1)}})
	}
}

func TestNumbers(t *testing.T) {
	for _, c := range []struct {
		text string
		n    int64
	}{
		{"0", 0}, {"1", 1}, {"9", 9}, {"10", 10}, {"1234567890", 1234567890}, {"1000000000000000000", 1000000000000000000}, {"9223372036854775806", 1<<63 - 2}, {"9223372036854775807", 1<<63 - 1},
		{"0x0", 0}, {"0x00", 0}, {"0x1", 1}, {"0xA", 10}, {"0xa", 10}, {"0x007", 7}, {"0x123456789abcdef", 0x123456789abcdef}, {"0xABCDEF", 0xabcdef}, {"0xaBcDeF09", 0xabcdef09}, {"0x0000000000000000", 0}, {"0x000000000000000f", 15}, {"0x7fffffffffffffff", 1<<63 - 1}, {"0x7FFFFFFFFFFFFFFF", 1<<63 - 1},
	} {
		taken(t, c.text, []Word{{Number, c.text, c.n, at(1, 1)}})
		taken(t, "-"+c.text+".", []Word{{Mark, "-", 0, at(1, 1)}, {Number, c.text, c.n, at(1, 2)}, {Mark, ".", 0, at(1, 2+len(c.text))}})
	}
	taken(t, "0 0x1/**/2", []Word{{Number, "0", 0, at(1, 1)}, {Number, "0x1", 1, at(1, 3)}, {Number, "2", 2, at(1, 10)}})
}

func TestWrongNumbers(t *testing.T) {
	for _, text := range []string{
		"007", "00", "01", "08", "0_", "0a", "0x", "0X", "0X1", "0xg", "0x1g", "0x_1", "0x1_", "00x1", "1x1", "0b1", "0o7", "1a", "1_", "1_000", "1e5", "12L", "0x1L", "0x0x1",
		"9223372036854775808", "9999999999999999999", "10000000000000000000", "18446744073709551615", "18446744073709551616", "99999999999999999999",
		"0x8000000000000000", "0xffffffffffffffff", "0x00000000000000000", "0x00000000000000001", "0x10000000000000000",
		strings.Repeat("1", 20), strings.Repeat("7", 5000), "0x" + strings.Repeat("0", 5000), "1" + strings.Repeat("a", 50),
	} {
		refused(t, text, at(1, 1), nil)
		refused(t, text+";", at(1, 1), nil)
		refused(t, "x\n -"+text, at(2, 3), []Word{{Name, "x", 0, at(1, 1)}, {Mark, "-", 0, at(2, 2)}})
	}
}

var allMarks = strings.Fields("( ) { } [ ] ; , . -> = == != < <= > >= << >> + - * / % & && | || ^ ~ !")

func TestMarks(t *testing.T) {
	for _, m := range allMarks {
		taken(t, m, []Word{{Mark, m, 0, at(1, 1)}})
		taken(t, "a"+m+"b", []Word{{Name, "a", 0, at(1, 1)}, {Mark, m, 0, at(1, 2)}, {Name, "b", 0, at(1, 2+len(m))}})
		for _, next := range allMarks {
			taken(t, m+" "+next, []Word{{Mark, m, 0, at(1, 1)}, {Mark, next, 0, at(1, 2+len(m))}})
			both := m + next
			if len(both) != 2 || both == "//" || both == "/*" {
				continue
			}
			if slices.Contains(allMarks, both) {
				taken(t, both, []Word{{Mark, both, 0, at(1, 1)}})
			} else {
				taken(t, both, []Word{{Mark, m, 0, at(1, 1)}, {Mark, next, 0, at(1, 2)}})
			}
		}
	}
}

func TestLongestMarks(t *testing.T) {
	for text, want := range map[string]string{
		">>>": ">> >", "<<<": "<< <", "===": "== =", ">>=": ">> =", "<<=": "<< =", "->>": "-> >", "-->": "- ->", "&&&": "&& &", "|||": "|| |", "!==": "!= =", "!!=": "! !=", "<=>": "<= >", "<->": "< ->", "++": "+ +", "--": "- -", "+=": "+ =", "*/": "* /", "**/": "* * /", ">=>>=": ">= >> =", "^=": "^ =", "..": ". .",
	} {
		var l []string
		for _, w := range collect(t, text) {
			if w.Kind != Mark {
				t.Errorf("P4.2: Each(%q): %v", text, w)
			}
			l = append(l, w.Text)
		}
		if got := strings.Join(l, " "); got != want {
			t.Errorf("P4.2: Each(%q): %s, want %s", text, got, want)
		}
	}
}

func TestPlaces(t *testing.T) {
	x := func(line, col int) Word { return Word{Name, "x", 0, at(line, col)} }
	for text, want := range map[string]Word{
		"x": x(1, 1), " x": x(1, 2), "\tx": x(1, 2), "\rx": x(1, 2), "\r\tx": x(1, 3), "\nx": x(2, 1), "\r\nx": x(2, 1), "\n\rx": x(2, 2), "\n\n\n  x": x(4, 3), "  \n x": x(2, 2),
		"//\nx": x(2, 1), "// a\n// b\n x": x(3, 2), "// a\r\nx": x(2, 1), "//\rx\nx": x(2, 1),
		"/**/x": x(1, 5), "/* a */ x": x(1, 9), "/*\n*/x": x(2, 3), "/*\n\n  \n */ x": x(4, 5), "/*\r\n*/\tx": x(2, 4), "/* \u00e9 */x": x(1, 9), "/***/x": x(1, 6), "/*/*/x": x(1, 6), "/*//*/x": x(1, 7), "//*\nx": x(2, 1), "// */\nx": x(2, 1), "/**///\nx": x(2, 1),
	} {
		taken(t, text, []Word{want})
	}
	taken(t, "x//y\nx/*\n*/x", []Word{x(1, 1), x(2, 1), x(3, 3)})
	taken(t, "x / /x", []Word{x(1, 1), {Mark, "/", 0, at(1, 3)}, {Mark, "/", 0, at(1, 5)}, x(1, 6)})
	taken(t, "x / *x", []Word{x(1, 1), {Mark, "/", 0, at(1, 3)}, {Mark, "*", 0, at(1, 5)}, x(1, 6)})
}

func TestBytesThatBeginNoWord(t *testing.T) {
	begins := "abcdefghijklmnopqrstuvwxyzABCDEFGHIJKLMNOPQRSTUVWXYZ_0123456789 \t\r\n" + strings.Join(allMarks, "")
	for b := range 256 {
		text := string([]byte{byte(b)})
		if strings.Contains(begins, text) && b < 128 {
			if _, _, e := Words(text); e != api.OK {
				t.Errorf("P4.1: Words(%q): %d", text, e)
			}
			continue
		}
		refused(t, text, at(1, 1), nil)
		a := []Word{{Name, "a", 0, at(1, 1)}}
		refused(t, "a"+text, at(1, 2), a)
		refused(t, "a\r\n\t"+text+" b", at(2, 2), a)
		refused(t, "a/*\n "+text+"*/"+text+text, at(2, 5), a)
		refused(t, "7"+text, at(1, 2), []Word{{Number, "7", 7, at(1, 1)}})
	}
}

func TestRemarksThatDoNotEnd(t *testing.T) {
	a := []Word{{Name, "a", 0, at(1, 1)}}
	for _, text := range []string{"/*", "/*/", "/* *", "/* * /", "/*\n\n\n", "/* //", "/*\n//*", "/*@", "/*/*", "/* 1a \xff"} {
		refused(t, text, at(1, 1), nil)
		refused(t, "a "+text, at(1, 3), a)
		refused(t, "a// */\n\r"+text, at(2, 2), a)
		refused(t, "a/*\n*/"+text, at(2, 3), a)
	}
}

// The first fault is told, whichever it is.
func TestFirstFault(t *testing.T) {
	refused(t, "@ 1a /*", at(1, 1), nil)
	refused(t, "1a @", at(1, 1), nil)
	refused(t, "\n/* @ 1a", at(2, 1), nil)
	refused(t, "/* @ */ 007 #", at(1, 9), nil)
}

func TestLimit(t *testing.T) {
	blanks := strings.Repeat(" ", api.MaxText-1)
	taken(t, blanks, nil)
	taken(t, blanks+"\n", nil)
	taken(t, blanks+"x", []Word{{Name, "x", 0, at(1, api.MaxText)}})
	taken(t, "//"+blanks[:api.MaxText-2], nil)
	refused(t, blanks+"@", at(1, api.MaxText), nil)
	refused(t, "/*"+blanks[:api.MaxText-2], at(1, 1), nil)
	if l, _, e := Words(strings.Repeat(";", api.MaxText)); len(l) != api.MaxText || e != api.OK {
		t.Errorf("P4.1: MaxText marks: %d words, %d", len(l), e)
	}
	for _, text := range []string{blanks + "  ", "x" + blanks + " ", "@" + blanks + "\n", "/*" + blanks, strings.Repeat("1", api.MaxText+1), strings.Repeat("\n", 3*api.MaxText)} {
		if l, place, e := Words(text); len(l) != 0 || place != (api.Pos{}) || e != api.ELIMIT {
			t.Errorf("P4.1: %d bytes: %d words, %v, %d", len(text), len(l), place, e)
		}
		if l := collect(t, text); l != nil {
			t.Errorf("P4.2: %d bytes: %d words", len(text), len(l))
		}
	}
}

func TestRangedOverAgain(t *testing.T) {
	for _, text := range []string{"", "a", "a b c d", "int x;\n@", "1 2 /*"} {
		want := collect(t, text)
		words := Each(text)
		for stop := range len(want) + 1 {
			n := 0
			for i, w := range words {
				if n == stop {
					break
				}
				if i != n || w != want[i] {
					t.Fatalf("P4.2: Each(%q), left at %d: %d, %v", text, stop, i, w)
				}
				n++
			}
			var all []Word
			for _, w := range words {
				all = append(all, w)
			}
			if !slices.Equal(all, want) {
				t.Fatalf("P4.2: Each(%q), after it was left at %d: %v", text, stop, all)
			}
		}
	}
	// One within the other: neither moves the other on.
	words := Each("a b c")
	pairs := ""
	for _, v := range words {
		for _, w := range words {
			pairs += v.Text + w.Text + " "
		}
	}
	if pairs != "aa ab ac ba bb bc ca cb cc " {
		t.Errorf("P4.2: nested: %s", pairs)
	}
}

func TestNewMemory(t *testing.T) {
	text := strings.Clone("name 0x123 while -> x /**/ 7")
	first, last := uintptr(unsafe.Pointer(unsafe.StringData(text))), uintptr(len(text))
	l, _, _ := Words(text)
	for _, w := range append(slices.Clone(l), collect(t, text)...) {
		if p := uintptr(unsafe.Pointer(unsafe.StringData(w.Text))); p-first < last {
			t.Errorf("R4: the word %q lies in the text", w.Text)
		}
	}
	again, _, _ := Words(text)
	for i := range l[:cap(l)] {
		l[:cap(l)][i] = Word{}
	}
	if third, _, _ := Words(text); !slices.Equal(again, third) || len(third) != 6 {
		t.Errorf("R4: a list that was answered is part of a later answer: %v", third)
	}
}

var gap = regexp.MustCompile(`^(?s:[ \t\r\n]|//[^\n]*|/\*.*?\*/)`)

var piece = regexp.MustCompile(`^(/\*|[a-zA-Z_0-9]+|->|==|!=|<=|>=|<<|>>|&&|\|\||(?s:.))`)

var forms = []struct {
	kind int
	form *regexp.Regexp
}{
	{Key, regexp.MustCompile(`^(char|int|long|void|struct|public|if|else|while|break|continue|return|sizeof|in|out)$`)},
	{Name, regexp.MustCompile(`^[a-zA-Z_][a-zA-Z_0-9]{0,39}$`)},
	{Number, regexp.MustCompile(`^(0|[1-9][0-9]{0,18}|0x[0-9a-fA-F]{1,16})$`)},
	{Mark, regexp.MustCompile(`^(->|==|!=|<=|>=|<<|>>|&&|\|\||[(){}\[\];,.=<>+*/%&|^~!-])$`)},
}

// slowWords cuts by patterns, as the chapter writes them.
func slowWords(text string) ([]Word, api.Pos, bool) {
	var l []Word
	for i := 0; i < len(text); {
		before := text[:i]
		place := at(1+strings.Count(before, "\n"), i-strings.LastIndex(before, "\n"))
		if g := gap.FindString(text[i:]); g != "" {
			i += len(g)
			continue
		}
		p := piece.FindString(text[i:])
		w := Word{At: place, Text: p}
		for _, f := range forms {
			if w.Kind == 0 && f.form.MatchString(p) {
				w.Kind = f.kind
			}
		}
		if w.Kind == Number {
			n, err := strconv.ParseUint(p, 0, 64)
			if err != nil || n > 1<<63-1 {
				w.Kind = 0
			}
			w.N = int64(n)
		}
		if w.Kind == 0 {
			return l, place, false
		}
		l = append(l, w)
		i += len(p)
	}
	return l, api.Pos{}, true
}

func TestAgainstPatterns(t *testing.T) {
	pieces := append(strings.Fields("a b1 _ x9 Zz int in inn out while 0 1 10 0x 0x1 0xF 00 7a 9223372036854775807 9223372036854775808 0x7fffffffffffffff 0x8000000000000000 // /* */ / * @ # \" \\ $ ` ' ? : \u00e9 \xff \x00"), allMarks...)
	pieces = append(pieces, " ", "\t", "\r", "\n", "\n", " ", " ", "\n", "*/", "*/", strings.Repeat("n", 40), strings.Repeat("n", 41))
	faults := 0
	r := rand.New(rand.NewSource(4))
	for range 20000 {
		text := ""
		for range r.Intn(12) {
			// Most pieces are taken, so that some texts go on behind their first words.
			p := pieces[r.Intn(len(pieces))]
			if _, _, ok := slowWords(p); !ok && r.Intn(4) > 0 {
				p = " "
			}
			text += p
		}
		want, place, ok := slowWords(text)
		if ok {
			taken(t, text, want)
		} else {
			faults++
			refused(t, text, place, want)
		}
		if t.Failed() {
			return
		}
	}
	if faults < 2000 || faults > 18000 {
		t.Errorf("%d texts with faults: too few or too many to tell much", faults)
	}
}

func FuzzWords(f *testing.F) {
	f.Add("int main(){return 0x1F;} // x")
	f.Fuzz(func(t *testing.T, text string) {
		if len(text) > 2000 {
			return
		}
		want, place, ok := slowWords(text)
		if ok {
			taken(t, text, want)
		} else {
			refused(t, text, place, want)
		}
	})
}
