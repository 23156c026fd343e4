package bparse

import (
	"math/rand"
	"slices"
	"strings"
	"testing"

	"patois/api"
	"patois/blex"
	"patois/text"
)

// The chapter's grammar once more, as rules that are gone through all at once
// (Earley's way): at each token there is what may stand there after all that
// came, and the first token that is none of it is the one that does not fit.

// grammar is the chapter's. A symbol with rules is made by one of them; one that
// begins with & asks of the next token, and takes none; each other one is a
// token, a key by itself.
var grammar = ruled(map[string][]string{
	"source":   {"list END"},
	"list":     {"seps &ends", "seps chains seps1 &ends", "seps chains &no-sep"},
	"seps":     {"", "seps1"},
	"seps1":    {"SEP", "seps1 SEP"},
	"chains":   {"chain", "chains seps1 chain"},
	"chain":    {"pipe", "chain AND-OR lines pipe"},
	"lines":    {"", "lines LINE"},
	"pipe":     {"pipes", "NOT pipes"},
	"pipes":    {"command", "pipes PIPE lines command"},
	"command":  {"LEFT list RIGHT turns", "if OPEN list CLOSE lines command", "if OPEN list CLOSE lines command else lines command", "while OPEN list CLOSE lines command", "for OPEN NAME in words CLOSE lines command", "switch OPEN word CLOSE lines LEFT seps cases RIGHT turns", "fn FREE LEFT list RIGHT", "settings more &no-more", "&no-key word more &no-more", "turn more &no-more"},
	"cases":    {"", "cases case words SEP list"},
	"settings": {"setting", "settings setting"},
	"setting":  {"FREE IS word"},
	"more":     {"", "more &no-else word", "more turn"},
	"turns":    {"", "turns turn"},
	"turn":     {"TURN word"},
	"words":    {"", "words word"},
	"word":     {"items &word-ends"},
	"items":    {"item", "items CARET item", "items &glue item"},
	"item":     {"TEXT", "OPEN words CLOSE", "TICK list RIGHT"},
})

// rule is the symbols that one may be made of.
type rule []string

func ruled(all map[string][]string) map[string][]rule {
	made := map[string][]rule{}
	for symbol, l := range all {
		for _, s := range l {
			made[symbol] = append(made[symbol], strings.Fields(s))
		}
	}
	return made
}

// kinds are the tokens of one kind alone.
var kinds = map[string]int{"END": blex.TEnd, "LINE": blex.TLine, "PIPE": blex.TPipe, "NOT": blex.TNot, "OPEN": blex.TOpen, "CLOSE": blex.TClose, "LEFT": blex.TLeft, "RIGHT": blex.TRight, "TICK": blex.TTick, "CARET": blex.TCaret, "IS": blex.TIs}

// fits answers whether the token may be this symbol, or what it asks for.
func fits(symbol string, x blex.Token) bool {
	of := func(l ...int) bool { return slices.Contains(l, x.Kind) }
	key := func(keys ...string) bool { return of(blex.TWord) && slices.Contains(keys, x.S) }
	isText := of(blex.TWord, blex.TDead, blex.TVar, blex.TCount, blex.TFlat, blex.TNum)
	begins := isText || of(blex.TOpen, blex.TTick)
	isTurn := of(blex.TIn, blex.TOut, blex.TMore, blex.THere)
	isKey := key(strings.Fields("if else while for in switch case fn")...)
	if kind, is := kinds[symbol]; is {
		return of(kind)
	}
	switch symbol {
	case "SEP":
		return of(blex.TLine, blex.TSemi)
	case "&no-sep":
		return !of(blex.TLine, blex.TSemi)
	case "&ends":
		return of(blex.TEnd, blex.TClose, blex.TRight) || key("case")
	case "AND-OR":
		return of(blex.TAnd, blex.TOr)
	case "TURN":
		return isTurn
	case "TEXT":
		return isText
	case "NAME":
		return of(blex.TWord) && text.Name(x.S)
	case "FREE":
		return of(blex.TWord) && text.Name(x.S) && !isKey
	case "&no-key":
		return !isKey
	case "&no-else":
		return !key("else")
	case "&no-more":
		return !isTurn && (!begins || key("else"))
	case "&glue":
		return x.Glue
	case "&word-ends":
		return !of(blex.TCaret) && !(x.Glue && begins)
	}
	return key(symbol)
}

// state is a symbol's rule, by its number, of which the first symbols are there,
// from a token on.
type state struct {
	symbol           string
	rule, done, from int
}

// at is the symbol that is next in the state, if there is one.
func (s state) at() string {
	if l := grammar[s.symbol][s.rule]; s.done < len(l) {
		return l[s.done]
	}
	return ""
}

func (s state) moved() state {
	s.done++
	return s
}

// unfit is the place in the list of the first token that does not fit, or -1.
func unfit(l []blex.Token) int {
	all := make([][]state, len(l)+1)
	all[0] = []state{{symbol: "source"}}
	for i := range l {
		complete(all, l[i], i)
		for _, s := range all[i] {
			if name := s.at(); name != "" && grammar[name] == nil && name[0] != '&' && fits(name, l[i]) {
				all[i+1] = append(all[i+1], s.moved())
			}
		}
		if len(all[i+1]) == 0 {
			return i
		}
	}
	return -1
}

// complete adds to the states at i all that follow from them without a token.
func complete(all [][]state, x blex.Token, i int) {
	seen := map[state]bool{}
	for _, s := range all[i] {
		seen[s] = true
	}
	grew := true
	add := func(s state) {
		if !seen[s] {
			seen[s] = true
			all[i] = append(all[i], s)
			grew = true
		}
	}
	for grew {
		grew = false
		for k := 0; k < len(all[i]); k++ {
			s := all[i][k]
			name := s.at()
			switch {
			case name == "":
				for _, o := range all[s.from] {
					if o.at() == s.symbol {
						add(o.moved())
					}
				}
			case grammar[name] != nil:
				for n := range grammar[name] {
					add(state{name, n, 0, i})
				}
			case name[0] == '&' && fits(name, x):
				add(s.moved())
			}
		}
	}
}

// follows checks Parse of s against the grammar; s has no error of Lex's, and
// none of its bounds.
func follows(t *testing.T, s string) bool {
	t.Helper()
	l, err := blex.Lex(s)
	if err != nil {
		t.Fatalf("Lex(%q): %v", s, err)
	}
	_, err = Parse(s)
	i := unfit(l)
	switch {
	case i < 0:
		if err != nil {
			t.Errorf("Parse(%q): %v", s, err)
		}
	case l[i].Kind == blex.TEnd:
		if !isAt(err, len(s), api.ErrEnd) {
			t.Errorf("Parse(%q): %v; not ErrEnd at %d", s, err, len(s))
		}
	case !isAt(err, l[i].At, api.ErrForm):
		t.Errorf("Parse(%q): %v; not ErrForm at %d", s, err, l[i].At)
	}
	return !t.Failed()
}

func signs() []string {
	return append(strings.Fields("a 1 'b' $x if else while for in switch case fn ( ) { } `{ ! ; && | < ^ ="), "\n")
}

// Every source of up to three of these, one beside the other or apart.
func TestGrammarOfShortSources(t *testing.T) {
	for _, a := range signs() {
		for _, b := range signs() {
			for _, c := range signs() {
				if !follows(t, a+" "+b+" "+c) || !follows(t, a+b+" "+c) {
					return
				}
			}
		}
	}
}

// What fits, told by the grammar step by step, and some steps that do not fit.
func TestGrammarOfLongerSources(t *testing.T) {
	r := rand.New(rand.NewSource(13))
	whole := 0
	for range 1200 {
		s := ""
		for range 3 + r.Intn(20) {
			next := s + []string{" ", " ", ""}[r.Intn(3)] + signs()[r.Intn(len(signs()))]
			l, err := blex.Lex(next)
			if err != nil {
				continue
			}
			if i := unfit(l); i < 0 || l[i].Kind == blex.TEnd || r.Intn(60) == 0 {
				s = next
			}
		}
		if !follows(t, s) {
			return
		}
		if _, err := Parse(s); err == nil {
			whole++
		}
	}
	if whole < 100 {
		t.Errorf("only %d were whole", whole)
	}
}

// Sources that are whole, with a sign more, less or another one.
func TestGrammarOfChangedSources(t *testing.T) {
	r := rand.New(rand.NewSource(14))
	wholes := []string{
		"switch ( a ) \n { ; case b c ; d \n case \n case e ; { f } case g ; } > h < i", "for ( i in a b ( c else ) ) \n x = e d", "if ( a ; b ) \n if ( c ) d else \n e else { f } < g", "fn f { a ; fn g { b } } && h", "while ( ! a | b ) \n { c } || \n d | \n e", "x = ( a ) y = `{ b ^ c } d < e f ; g", "{ { a } \n ; b } < c ; ! { } ; d", "a 'b' ^ $x ( `{ if ( c ) d else e } ) < f g",
	}
	for range 2500 {
		words := strings.Split(wholes[r.Intn(len(wholes))], " ")
		for range 1 + r.Intn(2) {
			i, sign := r.Intn(len(words)), signs()[r.Intn(len(signs()))]
			switch r.Intn(3) {
			case 0:
				words = slices.Insert(words, i, sign)
			case 1:
				words = slices.Delete(words, i, i+1)
			default:
				words[i] = sign
			}
		}
		if !follows(t, strings.Join(words, " ")) {
			return
		}
	}
	for _, s := range wholes {
		if _, err := Parse(s); err != nil || !follows(t, s) {
			t.Errorf("Parse(%q): %v", s, err)
		}
	}
}

// A list ends behind a chain also without a line or semicolon, where what goes
// on around it stands there: so may a case behind braces, by the grammar as it
// is written.
func TestCasesWithoutLinesAhead(t *testing.T) {
	parses(t, src{"switch(a){case b;{c} case d;e}", "case(flat('a') ~b~ call('c') ~d~ call('e'))"}, src{"switch(a){case b;fn f{c}case d;}", "case(flat('a') ~b~ fun:f(call('c')) ~d~ nop())"}, src{"switch(a){case b;c case d;e}", "case(flat('a') ~b~ seq(call('c' 'case' 'd') call('e')))"})
}
