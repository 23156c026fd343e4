package aparse

import (
	"math/rand"
	"slices"
	"strings"
	"testing"

	"patois/alex"
	"patois/api"
	"patois/text"
)

// The chapter's grammar once more, as rules that are gone through all at once
// (Earley's way): at each token there is what may stand there after all that
// came, and the first token that is none of it is the one that does not fit.

// rules are the grammar's. A symbol with rules is made by one of them; one that
// begins with & asks of the next token, and takes none; each other one is a
// token.
func rules() map[string][]string {
	return map[string][]string{
		"source":  {"list END"},
		"list":    {"seps &ends", "seps chains seps1 &ends", "seps chains &no-sep"},
		"seps":    {"", "seps1"},
		"seps1":   {"SEP", "seps1 SEP"},
		"chains":  {"chain", "chains seps1 chain"},
		"chain":   {"pipe", "chain AND-OR lines pipe"},
		"lines":   {"", "lines LINE"},
		"pipe":    {"pipes", "! pipes"},
		"pipes":   {"command", "pipes PIPE lines command"},
		"command": {"{ list } turns", "if list then list fi turns", "if list then list else list fi turns", "while list do list done turns", "for NAME in words seps1 do list done turns", "case WORD lines in lines items esac turns", "HEAD OPEN CLOSE lines { list }", "first more &no-more"},
		"turns":   {"", "turns turn"},
		"turn":    {"TURN WORD"},
		"words":   {"", "words WORD"},
		"items":   {"", "items item"},
		"item":    {"pattern CLOSE list lines", "pattern CLOSE list CASE lines"},
		"pattern": {"NO-ESAC", "OPEN WORD"},
		"first":   {"NO-KEY", "turn"},
		"more":    {"", "more WORD", "more turn"},
	}
}

// fits answers whether the token at i may be this symbol.
func fits(symbol string, l []alex.Token, i int) bool {
	kind := l[i].Kind
	s, bare := alex.Bare(l[i])
	of := func(kinds ...int) bool { return slices.Contains(kinds, kind) }
	isHead := bare && text.Name(s) && !Key(s) && l[i+1].Kind == alex.TOpen
	switch symbol {
	case "END":
		return of(alex.TEnd)
	case "SEP":
		return of(alex.TLine, alex.TSemi)
	case "&no-sep":
		return !of(alex.TLine, alex.TSemi)
	case "&ends":
		return of(alex.TEnd, alex.TClose, alex.TCase) || bare && slices.Contains(strings.Fields("then else fi do done esac }"), s)
	case "AND-OR":
		return of(alex.TAnd, alex.TOr)
	case "LINE":
		return of(alex.TLine)
	case "PIPE":
		return of(alex.TPipe)
	case "OPEN":
		return of(alex.TOpen)
	case "CLOSE":
		return of(alex.TClose)
	case "CASE":
		return of(alex.TCase)
	case "TURN":
		return of(alex.TIn, alex.TOut, alex.TMore, alex.THere)
	case "&no-more":
		return !of(alex.TWord, alex.TIn, alex.TOut, alex.TMore, alex.THere)
	case "WORD":
		return of(alex.TWord)
	case "NO-ESAC":
		return of(alex.TWord) && !(bare && s == "esac")
	case "NO-KEY":
		return of(alex.TWord) && !(bare && Key(s)) && !isHead
	case "HEAD":
		return isHead
	case "NAME":
		return bare && text.Name(s)
	}
	return bare && s == symbol
}

// state is a rule of which the first symbols are there, from a token on.
type state struct {
	symbol, rule string
	done, from   int
}

// at is the symbol that is next in the state, if there is one.
func (s state) at() string {
	if f := strings.Fields(s.rule); s.done < len(f) {
		return f[s.done]
	}
	return ""
}

func (s state) moved() state {
	s.done++
	return s
}

// misfit is the place in the list of the first token that does not fit, or -1.
func misfit(l []alex.Token) int {
	grammar := rules()
	all := make([][]state, len(l)+1)
	all[0] = []state{{symbol: "source", rule: "list END"}}
	for i := range l {
		complete(grammar, all, l, i)
		for _, s := range all[i] {
			if name := s.at(); name != "" && grammar[name] == nil && name[0] != '&' && fits(name, l, i) {
				all[i+1] = append(all[i+1], s.moved())
			}
		}
		if len(all[i+1]) == 0 {
			return i
		}
	}
	return -1
}

// complete adds to the states at i all that follow from them without a token.
func complete(grammar map[string][]string, all [][]state, l []alex.Token, i int) {
	seen := map[state]bool{}
	for _, s := range all[i] {
		seen[s] = true
	}
	add := func(s state) bool {
		if seen[s] {
			return false
		}
		seen[s] = true
		all[i] = append(all[i], s)
		return true
	}
	for grew := true; grew; {
		grew = false
		for k := 0; k < len(all[i]); k++ {
			s := all[i][k]
			name := s.at()
			switch {
			case name == "":
				for _, o := range all[s.from] {
					if o.at() == s.symbol && add(o.moved()) {
						grew = true
					}
				}
			case grammar[name] != nil:
				for _, rule := range grammar[name] {
					grew = add(state{name, rule, 0, i}) || grew
				}
			case name[0] == '&' && fits(name, l, i):
				grew = add(s.moved()) || grew
			}
		}
	}
}

// follows checks Parse of s against the grammar; s has no `$(`, and no error of
// Lex's.
func follows(t *testing.T, s string) bool {
	t.Helper()
	l, err := alex.Lex(s)
	if err != nil {
		t.Fatalf("Lex(%q): %v", s, err)
	}
	_, err = Parse(s)
	i := misfit(l)
	switch {
	case i < 0:
		if err != nil {
			t.Errorf("Parse(%q): %v", s, err)
		}
	case l[i].Kind == alex.TEnd:
		if !isAt(err, len(s), api.ErrEnd) {
			t.Errorf("Parse(%q): %v; not ErrEnd at %d", s, err, len(s))
		}
	case !isAt(err, l[i].At, api.ErrForm):
		t.Errorf("Parse(%q): %v; not ErrForm at %d", s, err, l[i].At)
	}
	return !t.Failed()
}

func signs() []string {
	return append(strings.Fields("a x=1 'fi' if then else fi while do done for in case esac { } ! ; ;; && || | ( ) < >>"), "\n")
}

// Every source of up to three of these.
func TestGrammarOfShortSources(t *testing.T) {
	for _, a := range signs() {
		for _, b := range signs() {
			for _, c := range signs() {
				if !follows(t, a+" "+b+" "+c) {
					return
				}
			}
		}
	}
}

// What fits, told by the grammar step by step, and some steps that do not fit.
func TestGrammarOfLongerSources(t *testing.T) {
	r := rand.New(rand.NewSource(11))
	whole := 0
	for range 1500 {
		var words []string
		for range 3 + r.Intn(22) {
			words = append(words, signs()[r.Intn(len(signs()))])
			l, _ := alex.Lex(strings.Join(words, " "))
			if i := misfit(l); i >= 0 && l[i].Kind != alex.TEnd && r.Intn(40) > 0 {
				words = words[:len(words)-1]
			}
		}
		s := strings.Join(words, " ")
		if !follows(t, s) {
			return
		}
		if _, err := Parse(s); err == nil {
			whole++
		}
	}
	if whole < 100 {
		t.Errorf("only %d were whole", whole)
	}
}

// Sources that are whole, with a sign more, less or another one.
func TestGrammarOfChangedSources(t *testing.T) {
	r := rand.New(rand.NewSource(12))
	wholes := []string{
		"case a in ( b ) c ;; d ) \n { e ; } f ) g > h ;; esac < i", "for i in a do b ; do c && d ; done > e", "if a ; then b | c else ; else d ; fi >> e", "f ( ) \n { if a ; then b ; fi ; g ( ) { c ; } \n } && h", "while ! a | b ; do { c ; } ; done | \n d || \n e", "x=1 a < b if ; > c ; case a \n in \n esac", "{ { a ; } \n ; b ; } ; ! { } ; c",
	}
	for range 3000 {
		words := strings.Split(wholes[r.Intn(len(wholes))], " ")
		for range 1 + r.Intn(2) {
			i, sign := r.Intn(len(words)), signs()[r.Intn(len(signs()))]
			switch r.Intn(3) {
			case 0:
				words = slices.Insert(words, i, sign)
			case 1:
				words = slices.Delete(words, i, i+1)
			default:
				words[i] = sign
			}
		}
		if !follows(t, strings.Join(words, " ")) {
			return
		}
	}
	for _, s := range wholes {
		if _, err := Parse(s); err != nil || !follows(t, s) {
			t.Errorf("Parse(%q): %v", s, err)
		}
	}
}

// A source's error is the same in a `$(`, as many places further.
func TestGrammarInBrackets(t *testing.T) {
	r := rand.New(rand.NewSource(13))
	for range 20000 {
		var words []string
		for range 1 + r.Intn(10) {
			words = append(words, signs()[r.Intn(len(signs()))])
		}
		s := strings.Join(words, " ")
		_, alone := Parse(s)
		if alone == nil || !balanced(s) {
			continue
		}
		for _, w := range []within{{"a $(", ")"}, {"x=1 \"b$(", ")\" fi"}, {"for i in ''$(", ")"}, {"a $(b >$(", "))"}} {
			if _, err := Parse(w[0] + s + w[1]); err.Error() != moved(alone, len(w[0])).Error() {
				t.Fatalf("Parse(%q): %v; without: %v", w[0]+s+w[1], err, alone)
			}
		}
	}
}

// balanced answers whether each bracket has its other one.
func balanced(s string) bool {
	open := 0
	for _, c := range s {
		open += map[rune]int{'(': 1, ')': -1}[c]
		if open < 0 {
			return false
		}
	}
	return open == 0
}
