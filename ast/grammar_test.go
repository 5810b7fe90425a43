package ast

import (
	"math/rand"
	"strconv"
	"strings"
)

// grammar is the chapter's, word for word but for expr's levels, which are spelt out.
const grammar = `
program = { struct | global | function } .
struct  = "struct" NAME "{" { type NAME [ "[" NUMBER "]" ] ";" } "}" ";" .
global  = type NAME [ "[" NUMBER "]" ] ";" .
function = type NAME "(" [ param { "," param } ] ")" block .
param   = [ "public" ] type NAME .
type    = ( "char" | "int" | "long" | "void" | "struct" NAME ) { "*" } .
block   = "{" { declaration | statement } "}" .
declaration = type NAME [ "[" NUMBER "]" | "=" expr ] ";" .
statement = block | ";" | "if" "(" expr ")" statement [ "else" statement ]
          | "while" "(" expr ")" statement | "break" ";" | "continue" ";"
          | "return" [ expr ] ";" | "out" "(" expr ")" ";" | expr [ "=" expr ] ";" .
expr    = l1 { "||" l1 } .
l1      = l2 { "&&" l2 } .
l2      = l3 { "|" l3 } .
l3      = l4 { "^" l4 } .
l4      = l5 { "&" l5 } .
l5      = l6 { ( "==" | "!=" ) l6 } .
l6      = l7 { ( "<" | "<=" | ">" | ">=" ) l7 } .
l7      = l8 { ( "<<" | ">>" ) l8 } .
l8      = l9 { ( "+" | "-" ) l9 } .
l9      = unary { ( "*" | "/" | "%" ) unary } .
unary   = ( "-" | "~" | "!" | "*" | "&" ) unary | "(" type ")" unary | postfix .
postfix = primary { "[" expr "]" | "." NAME | "->" NAME } .
primary = NUMBER | NAME [ "(" [ expr { "," expr } ] ")" ] | "(" expr ")"
        | "in" "(" ")" | "sizeof" "(" type [ "[" NUMBER "]" ] ")" .
`

// rules are a grammar's: of each name its ways, each a row of symbols: rules' names, quoted words, NAME, NUMBER.
type rules map[string][][]string

// readRules makes a grammar plain: what stands in brackets of any kind becomes a rule of its own.
func readRules(text string) rules {
	r := rules{}
	symbols := strings.Fields(text)
	for len(symbols) > 0 {
		name := symbols[0]
		r[name], symbols = r.ways(name, symbols[2:], ".")
	}
	return r
}

func (r rules) ways(name string, symbols []string, closing string) ([][]string, []string) {
	ways, way := [][]string{}, []string{}
	for {
		s := symbols[0]
		symbols = symbols[1:]
		inner := name + "'" + strconv.Itoa(len(r))
		switch s {
		case closing:
			return append(ways, way), symbols
		case "|":
			ways, way = append(ways, way), []string{}
		case "{":
			r[inner] = nil
			var l [][]string
			l, symbols = r.ways(inner, symbols, "}")
			for i := range l {
				l[i] = append(l[i], inner)
			}
			r[inner] = append(l, []string{})
			way = append(way, inner)
		case "[":
			r[inner] = nil
			var l [][]string
			l, symbols = r.ways(inner, symbols, "]")
			r[inner] = append(l, []string{})
			way = append(way, inner)
		case "(":
			r[inner] = nil
			r[inner], symbols = r.ways(inner, symbols, ")")
			way = append(way, inner)
		default:
			way = append(way, s)
		}
	}
}

// state is a way of a rule, read up to a symbol, begun ahead of a word.
type state struct {
	rule      string
	way, read int
	begun     int
}

// firstWrong reads words by all of a grammar's ways at once. It tells the number of the first word that no program goes on with (as many as there are words, if it is the end), and false if they are a program.
func (r rules) firstWrong(words []string) (int, bool) {
	sets := make([][]state, len(words)+1)
	seen := make([]map[state]bool, len(words)+1)
	add := func(i int, s state) {
		if seen[i] == nil {
			seen[i] = map[state]bool{}
		}
		if !seen[i][s] {
			seen[i][s] = true
			sets[i] = append(sets[i], s)
		}
	}
	for way := range r["program"] {
		add(0, state{rule: "program", way: way})
	}
	for i := range sets {
		if len(sets[i]) == 0 {
			return i - 1, true
		}
		for k := 0; k < len(sets[i]); k++ {
			r.step(i, sets[i][k], sets, words, add)
		}
	}
	for _, s := range sets[len(words)] {
		if s.rule == "program" && s.begun == 0 && s.read == len(r[s.rule][s.way]) {
			return 0, false
		}
	}
	return len(words), true
}

func (r rules) step(i int, s state, sets [][]state, words []string, add func(int, state)) {
	way := r[s.rule][s.way]
	if s.read == len(way) {
		for _, outer := range sets[s.begun] {
			if w := r[outer.rule][outer.way]; outer.read < len(w) && w[outer.read] == s.rule {
				outer.read++
				add(i, outer)
			}
		}
		return
	}
	symbol := way[s.read]
	if ways, ok := r[symbol]; ok {
		for k := range ways {
			add(i, state{rule: symbol, way: k, begun: i})
			// A rule that can be nothing may have been left ahead of this one's asking for it.
			if len(ways[k]) == 0 {
				past := s
				past.read++
				add(i, past)
			}
		}
	} else if i < len(words) && fits(symbol, words[i]) {
		s.read++
		add(i+1, s)
	}
}

func isKeyword(word string) bool {
	return strings.Contains(" char int long void struct public if else while break continue return sizeof in out ", " "+word+" ")
}

func isDigit(b byte) bool { return '0' <= b && b <= '9' }

func isLetter(b byte) bool { return 'a' <= b && b <= 'z' || 'A' <= b && b <= 'Z' || b == '_' }

func fits(symbol, word string) bool {
	switch symbol {
	case "NAME":
		return isLetter(word[0]) && !isKeyword(word)
	case "NUMBER":
		return isDigit(word[0])
	}
	return symbol == `"`+word+`"`
}

// words makes words of a rule, by chance; with no more patience, by the shortest ways.
func (r rules) words(random *rand.Rand, short map[string]int, symbol string, patience *int) []string {
	ways, ok := r[symbol]
	if !ok {
		return []string{leaf(random, symbol)}
	}
	*patience--
	way := ways[random.Intn(len(ways))]
	if *patience < 0 {
		way = ways[short[symbol]]
	}
	var l []string
	for _, s := range way {
		l = append(l, r.words(random, short, s, patience)...)
	}
	return l
}

func leaf(random *rand.Rand, symbol string) string {
	switch symbol {
	case "NAME":
		return []string{"a", "b", "main", "f1", "_x"}[random.Intn(5)]
	case "NUMBER":
		return []string{"0", "7", "0x1F", "9223372036854775807"}[random.Intn(4)]
	}
	return strings.Trim(symbol, `"`)
}

// shortest tells of each rule the way by which its words end soonest.
func (r rules) shortest() map[string]int {
	best, length := map[string]int{}, map[string]int{}
	for changed := true; changed; {
		changed = false
		for name, ways := range r {
		next:
			for k, way := range ways {
				n := 1
				for _, s := range way {
					if _, isRule := r[s]; !isRule {
						n++
					} else if length[s] > 0 {
						n += length[s]
					} else {
						continue next
					}
				}
				if length[name] == 0 || n < length[name] {
					best[name], length[name], changed = k, n, true
				}
			}
		}
	}
	return best
}
