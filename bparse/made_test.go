package bparse

import (
	"math/rand"
	"strings"
	"testing"

	"patois/api"
)

// Sources made by a fixed rule, each together with what is told of its program,
// by the chapter once more.

// maker makes them.
type maker struct{ *rand.Rand }

// bit is an item of a word: its source; what is told of it as it is and in a
// pattern, of text without its marks; whether it is text, quoted or not, and of
// what is not quoted whether it is a pattern by itself.
type bit struct {
	s, plain, live          string
	text, dead, glob, byKey bool
}

func (m *maker) one(of ...string) string { return of[m.Intn(len(of))] }

// alive makes a word that is not quoted.
func (m *maker) alive() bit {
	all := []bit{
		{s: "a", plain: "a", live: "a"}, {s: "-b1", plain: "-b1", live: "-b1"}, {s: "2", plain: "2", live: "2"}, {s: `"q"`, plain: `"q"`, live: `"q"`}, {s: "[]", plain: "[]", live: "[]"}, {s: "]", plain: "]", live: "]"},
		{s: "*.c", live: "*.c", plain: "*.c", glob: true}, {s: "?", plain: "?", live: "?", glob: true}, {s: "[x]", plain: "[x]", live: "[x]", glob: true}, {s: `?\`, plain: `?\`, live: `?\\`, glob: true}, {s: `\\*`, plain: `\\*`, live: `\\*`, glob: true},
		{s: `a\*`, plain: `a\*`, live: `a\*`}, {s: `b\`, plain: `b\`, live: `b\\`}, {s: `\\`, plain: `\\`, live: `\\`}, {s: "if", plain: "if", live: "if", byKey: true}, {s: "else", plain: "else", live: "else", byKey: true}, {s: "case", plain: "case", live: "case", byKey: true}, {s: "in", plain: "in", live: "in", byKey: true},
	}
	b := all[m.Intn(len(all))]
	b.text = true
	return b
}

// quoted makes a word that is quoted.
func (m *maker) quoted() bit {
	all := []bit{{s: "''"}, {s: "'a b'", plain: "a b", live: `a\ b`}, {s: "'it''s'", plain: "it's", live: "it's"}, {s: "'*['", plain: "*[", live: `\*\[`}, {s: `'\'`, plain: `\`, live: `\\`}, {s: "'else'", plain: "else", live: "else"}, {s: "'$x;'", plain: "$x;", live: "$x;"}}
	b := all[m.Intn(len(all))]
	b.text, b.dead = true, true
	return b
}

// listed makes an item in whose place a list is put.
func (m *maker) listed(deep int) bit {
	n := 6
	if deep <= 0 {
		n = 4
	}
	b := bit{}
	switch m.Intn(n) {
	case 0:
		name := m.one("x", "else", "*")
		b.s, b.plain = "$"+name, "$"+name
	case 1:
		name := m.one("y", "*")
		b.s, b.plain = "$#"+name, "count($"+name+")"
	case 2:
		name := m.one("z", "*")
		b.s, b.plain = `$"`+name, "flat($"+name+")"
	case 3:
		digit := m.one("1", "9")
		b.s, b.plain = "$"+digit, "pick"+digit+"($*)"
	case 4:
		words, told := m.words(deep-1, plainTold)
		b.s, b.plain = "("+words+m.one("", " ")+")", "cat("+strings.Join(told, " ")+")"
	default:
		s, told := m.list(deep-1, true)
		b.s, b.plain = "`{"+s+"}", "sub("+told+")"
	}
	b.live = "esc(" + b.plain + ")"
	return b
}

// word makes a word; where a key may not be a word the first item is none.
func (m *maker) word(deep int, key bool) (string, []bit) {
	s, bits := "", []bit(nil)
	for i := range 1 + m.Intn(7)/3 {
		b := m.alive()
		for !key && i == 0 && b.byKey {
			b = m.alive()
		}
		switch m.Intn(3) {
		case 0:
			b = m.quoted()
		case 1:
			b = m.listed(deep)
		}
		s += m.between(bits, b) + b.s
		bits = append(bits, b)
	}
	return s, bits
}

// between makes what stands between two items of a word: nothing, where they
// would not be read as one.
func (m *maker) between(ahead []bit, b bit) string {
	if len(ahead) == 0 {
		return ""
	}
	last := ahead[len(ahead)-1]
	isOne := last.text && b.text && last.dead == b.dead
	goesOn := !last.text && b.text && !b.dead && strings.HasPrefix(last.s, "$")
	if isOne || goesOn || m.Intn(2) == 0 {
		return m.one("^", " ^ ", "^ ", "\t^")
	}
	return ""
}

// joined is what is told of bits: neighbouring texts together between marks.
func joined(bits []bit, mark string, of func(bit) string) string {
	var all []string
	for i, b := range bits {
		switch {
		case !b.text:
			all = append(all, of(b))
		case i > 0 && bits[i-1].text:
			all[len(all)-1] = strings.TrimSuffix(all[len(all)-1], mark) + of(b) + mark
		default:
			all = append(all, mark+of(b)+mark)
		}
	}
	if len(all) == 1 {
		return all[0]
	}
	return "join(" + strings.Join(all, " ") + ")"
}

func plainTold(bits []bit) string {
	if len(bits) == 1 && bits[0].glob {
		return "glob(~" + bits[0].live + "~)"
	}
	return joined(bits, "\x00", func(b bit) string { return b.plain })
}

func liveTold(bits []bit) string {
	return joined(bits, "~", func(b bit) string { return b.live })
}

// words makes words, each with a space ahead.
func (m *maker) words(deep int, of func([]bit) string) (string, []string) {
	s, all := "", []string(nil)
	for range m.Intn(4) {
		word, bits := m.word(deep, true)
		s += m.one(" ", "  ", "\t") + word
		all = append(all, of(bits))
	}
	return s, all
}

// allTold is what is told of a word that is all of these.
func allTold(all []string) string {
	if len(all) == 1 {
		return all[0]
	}
	return "cat(" + strings.Join(all, " ") + ")"
}

// list makes a list; an open one need not end with a line or semicolon.
func (m *maker) list(deep int, open bool) (string, string) {
	s := m.one("", "", " ", "\n", ";", " ;\n", "#;\n")
	var all []string
	n := m.Intn(3)
	if deep <= 0 {
		n = m.Intn(2)
	}
	for i := range n {
		chain, told := m.chain(deep)
		s += chain
		if i < n-1 || !open {
			s += m.one(";", "\n", " ; ", "\n\n", ";\n;", " # x\n")
		}
		all = append(all, told)
	}
	switch n {
	case 0:
		return s, "nop()"
	case 1:
		return s, all[0]
	}
	return s, "seq(" + strings.Join(all, " ") + ")"
}

func (m *maker) chain(deep int) (string, string) {
	s, told := m.pipe(deep)
	for range m.Intn(5) / 3 {
		sign := m.one("&&", "||")
		next, toldNext := m.pipe(deep)
		s += sign + m.one("", " ", "\n", " \n\n ") + next
		told = map[string]string{"&&": "and(", "||": "or("}[sign] + told + " " + toldNext + ")"
	}
	return s, told
}

func (m *maker) pipe(deep int) (string, string) {
	s, told := m.command(deep, false)
	n := m.Intn(6) / 4
	for range n {
		next, toldNext := m.command(deep, false)
		s += m.one("|", " | ", "|\n", "|\n\n") + next
		told += " " + toldNext
	}
	if n > 0 {
		told = "pipe(" + told + ")"
	}
	if m.Intn(5) == 0 {
		return "!" + m.one("", " ") + s, "not(" + told + ")"
	}
	return s, told
}

// command makes a command; one ahead of an else does not end with an if that
// would take it.
func (m *maker) command(deep int, ahead bool) (string, string) {
	if deep <= 0 || m.Intn(3) == 0 {
		return m.simple(deep)
	}
	list, toldList := m.list(deep-1, true)
	switch m.Intn(7) {
	case 0:
		turns, told, ends := m.turns(deep)
		return "{" + list + "}" + turns, told + toldList + ends
	case 1:
		return "fn f" + m.one("", " ") + "{" + list + "}", "fun:f(" + toldList + ")"
	case 2:
		return m.cases(deep)
	case 3:
		body, toldBody := m.body(deep, ahead)
		return "while" + m.one("", " ") + "(" + list + ")" + body, "while(" + toldList + " " + toldBody + ")"
	case 4:
		words, told := m.words(deep-1, plainTold)
		name := m.one("i", "in", "if", "else")
		body, toldBody := m.body(deep, ahead)
		return "for" + m.one("(", " ( ") + name + " in" + words + ")" + body, "for:" + name + "(" + allTold(told) + " " + toldBody + ")"
	case 5:
		if !ahead {
			body, toldBody := m.body(deep, false)
			return "if" + m.one("", " ") + "(" + list + ")" + body, "if(" + toldList + " " + toldBody + " nop())"
		}
	}
	good, toldGood := m.body(deep, true)
	bad, toldBad := m.body(deep, ahead)
	return "if(" + list + ")" + good + " else " + bad, "if(" + toldList + " " + toldGood + " " + toldBad + ")"
}

func (m *maker) body(deep int, ahead bool) (string, string) {
	s, told := m.command(deep-1, ahead)
	return m.one("", " ", "\n", " \n\n ") + s, told
}

func (m *maker) cases(deep int) (string, string) {
	word, bits := m.word(deep-1, true)
	s := "switch" + m.one("(", " ( ") + word + m.one(")", " )\n\n") + "{" + m.one("", "\n", ";;", " ; \n")
	told := "case(flat(" + plainTold(bits) + ")"
	for range m.Intn(3) {
		words, wanted := m.words(deep-1, liveTold)
		body, toldBody := m.list(deep-1, false)
		s += "case" + words + m.one(";", "\n", " ; ") + body
		told += " " + allTold(wanted) + " " + toldBody
	}
	turns, ahead, ends := m.turns(deep)
	return s + "}" + turns, ahead + told + ")" + ends
}

// turns makes turns, and what is told of them ahead of the command in them, and
// behind it.
func (m *maker) turns(deep int) (s, told, ends string) {
	for range m.Intn(5) / 3 {
		turn, ahead := m.turn(deep)
		s, told, ends = s+turn, told+ahead, ends+")"
	}
	return s, told, ends
}

func (m *maker) turn(deep int) (string, string) {
	sign := m.one("<", ">", ">>", "<<<")
	word, bits := m.word(deep-1, true)
	return m.one("", " ") + sign + m.one("", " ") + word, map[string]string{"<": "redir1(", ">": "redir2(", ">>": "redir3(", "<<<": "here("}[sign] + plainTold(bits) + " "
}

func (m *maker) simple(deep int) (string, string) {
	s, ahead, ends := "", "", ""
	var settings, words []string
	for range m.Intn(4) / 2 {
		word, bits := m.word(deep-1, true)
		name := m.one("v", "_1", "w")
		s += " " + name + m.one("=", " = ", "= ") + word
		settings = append(settings, ":"+name+"("+plainTold(bits))
	}
	for i := range 4 {
		switch m.Intn(4) {
		case 0:
			turn, told := m.turn(deep)
			s, ahead, ends = s+turn, ahead+told, ends+")"
		case 1, 2:
			word, bits := m.word(deep-1, false)
			s += " " + word
			words = append(words, plainTold(bits))
		default:
			if i == 3 && s == "" {
				s, words = "c", []string{"\x00c\x00"}
			}
		}
	}
	switch {
	case len(words) > 0:
		for _, x := range settings {
			ahead, ends = ahead+"local"+x+" ", ends+")"
		}
		return s, ahead + "call(" + strings.Join(words, " ") + ")" + ends
	case len(settings) == 0:
		return s, ahead + "nop()" + ends
	case len(settings) == 1:
		return s, ahead + "set" + settings[0] + ")" + ends
	}
	return s, ahead + "seq(set" + strings.Join(settings, ") set") + "))" + ends
}

func TestMadeSources(t *testing.T) {
	m := &maker{rand.New(rand.NewSource(13))}
	parsed, long := 0, 0
	for range 8000 {
		s, want := m.list(m.Intn(5), true)
		want = strings.ReplaceAll(want, "\x00", "'")
		l, err := Parse(s)
		if isAt(err, 0, api.ErrNest) || err == api.ErrMany || err == api.ErrLong {
			long++
			continue
		}
		parsed++
		if told(l) != want || err != nil {
			t.Fatalf("Parse(%q): %s, %v; not %s", s, told(l), err, want)
		}
	}
	if long > parsed/10 {
		t.Errorf("%d of %d were too much", long, parsed)
	}
}
