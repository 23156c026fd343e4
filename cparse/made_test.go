package cparse

import (
	"math/rand"
	"strings"
	"testing"

	"patois/api"
)

// Sources made by a fixed rule, each together with what is told of its program.

// maker makes them.
type maker struct{ *rand.Rand }

func (m *maker) one(of ...string) string { return of[m.Intn(len(of))] }

func (m *maker) pair(of ...src) (string, string) {
	x := of[m.Intn(len(of))]
	return x[0], x[1]
}

// braced makes a word that is put off: its text is what is told.
func (m *maker) braced(deep int) (string, string) {
	s := m.one("", "a", "a b", "$x [b]", "]", "set x", `\}`, `"`, "#;\n", "{a {b}}", `\\`, "\xff")
	if m.Intn(2) == 0 {
		s, _ = m.list(deep - 1)
	}
	return "{" + s + "}", "'" + s + "'"
}

// bytes makes bytes of a word; none of them would go on a name ahead.
func (m *maker) bytes(quoted bool) (string, string) {
	s, told := m.pair(src{"-b", "-b"}, src{".", "."}, src{`\n`, "\n"}, src{`\t`, "\t"}, src{`\[`, "["}, src{`\]`, "]"}, src{`\$x`, "$x"}, src{`\"`, `"`}, src{`\{`, "{"}, src{`\\`, `\`}, src{`\ c`, " c"}, src{`\;`, ";"}, src{"$-", "$-"}, src{"$0", "$0"}, src{"=#", "=#"}, src{"\xff", "\xff"})
	if quoted && m.Intn(2) == 0 {
		s, told = m.pair(src{" d ", " d "}, src{"\n", "\n"}, src{";", ";"}, src{"#", "#"}, src{"\t", "\t"})
	}
	return s, told
}

// part makes a part of a word that is not text.
func (m *maker) part(deep int) (string, string) {
	if deep > 0 && m.Intn(2) == 0 {
		s, told := m.list(deep - 1)
		return "[" + s + "]", "sub(" + told + ")"
	}
	return m.pair(src{"$x", "flat($x)"}, src{"$_y1", "flat($_y1)"}, src{"$*", "flat($*)"}, src{"$1", "flat(pick1($*))"}, src{"$9", "flat(pick9($*))"})
}

// parts makes parts, of which no two neighbours are text.
func (m *maker) parts(deep int, quoted bool) (string, string) {
	s, all, text := "", []string(nil), false
	for range 1 + m.Intn(4) {
		text = !text && m.Intn(3) > 0
		part, told := m.part(deep)
		if text {
			part, told = m.bytes(quoted)
			told = "'" + told + "'"
		}
		s += part
		all = append(all, told)
	}
	if len(all) == 1 {
		return s, all[0]
	}
	return s, "join(" + strings.Join(all, " ") + ")"
}

// word makes a word, and what is told of its value.
func (m *maker) word(deep int) (string, string) {
	switch m.Intn(6) {
	case 0, 1:
		return m.braced(deep)
	case 2:
		s, told := m.parts(deep, true)
		return `"` + s + `"`, told
	case 3:
		return m.parts(deep, false)
	case 4:
		return m.pair(src{`""`, "''"}, src{`"a"`, "'a'"}, src{`a"b`, `'a"b'`}, src{"a{b}", "'a{b}'"})
	}
	s := m.one("a", "b1", "set", "if", "1", "*.c", "x#")
	return s, "'" + s + "'"
}

// name makes a word that is a name, and the name.
func (m *maker) name() (string, string) {
	s := m.one("x", "_9", "set", strings.Repeat("n", api.MaxName))
	return m.one(s, "{"+s+"}", `"`+s+`"`), s
}

// command makes a command, of a key or of none.
func (m *maker) command(deep int) (string, string) {
	if m.Intn(3) == 0 {
		return m.call(deep)
	}
	key, behind := keys[m.Intn(len(keys))], ""
	made := slowHole.ReplaceAllStringFunc(m.line(key), func(hole string) string {
		s, told := m.word(deep)
		switch hole[0] {
		case 'N':
			s, told = m.name()
		case 'P':
			told = "eval(" + told + ")"
		}
		behind += m.one(" ", "  ", "\t") + s
		return told
	})
	return m.one(key, key, `"`+key+`"`) + behind, made
}

// line makes the line of a command of that key, its words in their order.
func (m *maker) line(key string) string {
	for {
		if line := slowLine(key, m.Intn(8)); line != "" {
			return line
		}
	}
}

// call makes a command that begins with no key.
func (m *maker) call(deep int) (string, string) {
	first := m.one("a", "echo", "sets", "a=b")
	s, told := first, "'"+first+"'"
	switch m.Intn(4) {
	case 0:
		key := keys[m.Intn(len(keys))]
		s, told = "{"+key+"}", "'"+key+"'"
	case 1:
		s, told = m.part(deep)
		s, told = "x"+s, "join('x' "+told+")"
	}
	for range m.Intn(4) {
		word, toldWord := m.word(deep)
		s, told = s+m.one(" ", "  ", "\t")+word, told+" "+toldWord
	}
	return s, "call(" + told + ")"
}

// list makes commands with what parts them.
func (m *maker) list(deep int) (string, string) {
	s := m.one("", "", " ", "\n", ";", "\t; ", "#a b\n", " #c;\"\n")
	var all []string
	n := m.Intn(4)
	if deep <= 0 {
		n = m.Intn(2)
	}
	for i := range n {
		command, told := m.command(deep)
		s += command
		if i < n-1 {
			s += m.one(";", "\n", " ; ", "\n\n", ";#a\n", "\n#\n ")
		}
		all = append(all, told)
	}
	s += m.one("", "", " ", ";", "\n", "; # d\n")
	switch n {
	case 0:
		return s, "nop()"
	case 1:
		return s, all[0]
	}
	return s, "seq(" + strings.Join(all, " ") + ")"
}

// Sources made together with their programs; and with a byte too few, too many,
// or another.
func TestMadeSources(t *testing.T) {
	m := &maker{rand.New(rand.NewSource(16))}
	parsed, much := 0, 0
	for range 6000 {
		s, want := m.list(m.Intn(4))
		l, err := Parse(s)
		if isAt(err, 0, api.ErrNest) || err == api.ErrMany || err == api.ErrLong {
			much++
			continue
		}
		parsed++
		if told(l) != want || err != nil {
			t.Fatalf("Parse(%q): %s, %v; not %s", s, told(l), err, want)
		}
		if s == "" {
			continue
		}
		for range 3 {
			i, c := m.Intn(len(s)), m.one("{", "}", "[", "]", `"`, `\`, "$", "a", " ", ";", "#", "\n", " x ", ";set ", "[set]")
			holds(t, s[:i]+s[i+1:])
			holds(t, s[:i]+c+s[i:])
			holds(t, s[:i]+c+s[i+1:])
		}
	}
	if much > parsed/10 {
		t.Errorf("%d of %d were too much", much, parsed)
	}
}
