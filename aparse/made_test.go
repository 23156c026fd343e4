package aparse

import (
	"fmt"
	"math/rand"
	"regexp"
	"strings"
	"testing"

	"patois/api"
)

// Sources made by a fixed rule, each together with what is told of its program,
// by the chapter once more: a word byte by byte, a command as it is written.

// maker makes them. In a `$(` each `)` must have its `(`.
type maker struct {
	*rand.Rand
	inBracket bool
}

// atom is a byte of a word, dead or alive, or what is put in a dollar's place.
type atom struct {
	c           byte
	dead        bool
	list, value string
	quoted      bool
}

func (a atom) isByte() bool { return a.value == "" }

func (m *maker) one(of ...string) string { return of[m.Intn(len(of))] }

func (m *maker) byteOf(s string) byte { return s[m.Intn(len(s))] }

// word makes a word, which begins so.
func (m *maker) word(begin string, deep int) (string, []atom) {
	s, atoms := begin, bytesOf(begin, false)
	for range m.Intn(4) + 1 - len(begin) {
		switch m.Intn(6) {
		case 0, 1:
			text := strings.Repeat(string(m.byteOf("a*?[]-{!")), 1+m.Intn(2)) + m.one("", "b", "]", "1=")
			if begin != "" {
				text = strings.ReplaceAll(text, "=", "")
			}
			s, atoms = s+text, append(atoms, bytesOf(text, false)...)
		case 2:
			c := string(m.byteOf(`a*?[] ;&|()<>'"\$#` + "\n"))
			s, atoms = s+`\`+c, append(atoms, bytesOf(c, true)...)
		case 3:
			text := m.one("", "a", "* ", "[]", `\`, `"`, "$x", "$(", ")", "a\nb", ";;")
			s, atoms = s+"'"+text+"'", append(atoms, bytesOf(text, true)...)
		case 4:
			dollar, a := m.dollar(deep)
			s, atoms = s+dollar, append(atoms, a)
		default:
			text, some := m.between(deep)
			s, atoms = s+`"`+text+`"`, append(atoms, some...)
		}
	}
	if s == "" {
		return "''", nil
	}
	return s, atoms
}

func bytesOf(s string, dead bool) []atom {
	var l []atom
	for i := range len(s) {
		l = append(l, atom{c: s[i], dead: dead})
	}
	return l
}

// between makes what is between two `"`.
func (m *maker) between(deep int) (string, []atom) {
	s, atoms := "", []atom(nil)
	for range m.Intn(4) {
		if m.Intn(2) == 0 {
			dollar, a := m.dollar(deep)
			a.quoted = true
			s, atoms = s+dollar, append(atoms, a)
			continue
		}
		text := m.one("a", "*", "?b", "[", "]", " ", ")", "(", "'", `\n`, `\$`, `\"`, `\\`)
		plain := strings.NewReplacer(`\$`, "$", `\"`, `"`, `\\`, `\`).Replace(text)
		s, atoms = s+text, append(atoms, bytesOf(plain, true)...)
	}
	return s, atoms
}

// dollar makes a dollar, not quoted.
func (m *maker) dollar(deep int) (string, atom) {
	n := 1 + m.Intn(9)
	pick := fmt.Sprintf("pick%d($*)", n)
	switch m.Intn(6) {
	case 0:
		return "${x}", atom{list: "$x", value: "flat($x)"}
	case 1:
		return "$*", atom{list: "$*", value: "flat($*)"}
	case 2:
		return fmt.Sprint("$", n), atom{list: pick, value: "flat(" + pick + ")"}
	case 3:
		return "$#", atom{list: "count($*)", value: "count($*)"}
	}
	if deep <= 0 {
		return "${y}", atom{list: "$y", value: "flat($y)"}
	}
	before := m.inBracket
	m.inBracket = true
	s, told := m.list(deep-1, m.Intn(2) == 0)
	m.inBracket = before
	return "$(" + s + ")", atom{list: "sub(" + told + ")", value: "sub(" + told + ")"}
}

// joined is what is told of atoms: runs of bytes by text, dollars by of.
func joined(atoms []atom, text func([]atom) string, of func(atom) string) string {
	var all []string
	for i := 0; i < len(atoms); {
		end := i
		for end < len(atoms) && atoms[end].isByte() {
			end++
		}
		if end > i {
			all = append(all, text(atoms[i:end]))
			i = end
			continue
		}
		all = append(all, of(atoms[i]))
		i++
	}
	switch len(all) {
	case 0:
		return text(nil)
	case 1:
		return all[0]
	}
	return "join(" + strings.Join(all, " ") + ")"
}

func plainText(l []atom) string {
	s := ""
	for _, a := range l {
		s += string([]byte{a.c})
	}
	return "'" + s + "'"
}

func liveTextOf(l []atom) string {
	s := ""
	for _, a := range l {
		if a.dead && strings.Contains("*?[]\\ \t\n", string([]byte{a.c})) {
			s += `\`
		}
		s += string([]byte{a.c})
	}
	return "~" + s + "~"
}

func valueTold(l []atom) string {
	return joined(l, plainText, func(a atom) string { return a.value })
}

func liveTold(l []atom) string {
	return joined(l, liveTextOf, func(a atom) string {
		if a.quoted {
			return "esc(" + a.value + ")"
		}
		return a.value
	})
}

// shape is a word as a text: a byte that is dead is a d, a dollar a q if it is
// quoted and else an f, a byte alive is itself if a pattern has it, and else d.
func shape(l []atom) string {
	s := ""
	for _, a := range l {
		switch {
		case !a.isByte() && a.quoted:
			s += "q"
		case !a.isByte():
			s += "f"
		case !a.dead && strings.Contains("*?[]", string([]byte{a.c})):
			s += string([]byte{a.c})
		default:
			s += "d"
		}
	}
	return s
}

// By its shape a field is live text alone, or, if not that, the word's value.
var (
	isGlob  = regexp.MustCompile(`^[^qf]*([*?]|\[[^qf]+\])[^qf]*$`)
	isValue = regexp.MustCompile(`^[^qf]*$|^[^f*?[]*$`)
)

func fieldTold(l []atom) string {
	made := joined(l, liveTextOf, func(a atom) string {
		if a.quoted {
			return "esc(" + a.value + ")"
		}
		return a.list
	})
	switch s := shape(l); {
	case isGlob.MatchString(s):
		return "glob(" + made + ")"
	case isValue.MatchString(s):
		return valueTold(l)
	}
	return "glob(split(" + made + "))"
}

// list makes a list; an open one need not end with a line or semicolon, as
// nothing stands behind it that a command could take for its own.
func (m *maker) list(deep int, open bool) (string, string) {
	s := m.one("", "", " ", "\n", ";", " ;\n")
	var all []string
	n := m.Intn(3)
	if deep <= 0 {
		n = m.Intn(2)
	}
	for i := range n {
		chain, told := m.chain(deep)
		s += chain
		if i < n-1 || !open {
			s += m.one(";", "\n", " ; ", "\n\n", ";\n;")
		}
		all = append(all, told)
	}
	switch n {
	case 0:
		return s, "nop()"
	case 1:
		return s, all[0]
	}
	return s, "seq(" + strings.Join(all, " ") + ")"
}

func (m *maker) chain(deep int) (string, string) {
	s, told := m.pipe(deep)
	for range m.Intn(5) / 3 {
		sign := m.one("&&", "||")
		next, toldNext := m.pipe(deep)
		s += sign + m.one("", " ", "\n", " \n\n ") + next
		told = map[string]string{"&&": "and(", "||": "or("}[sign] + told + " " + toldNext + ")"
	}
	return s, told
}

func (m *maker) pipe(deep int) (string, string) {
	s, told := m.command(deep)
	n := m.Intn(6) / 4
	for range n {
		next, toldNext := m.command(deep)
		s += m.one("|", " | ", "|\n", "|\n\n") + next
		told += " " + toldNext
	}
	if n > 0 {
		told = "pipe(" + told + ")"
	}
	if m.Intn(5) == 0 {
		return "! " + s, "not(" + told + ")"
	}
	return s, told
}

func (m *maker) command(deep int) (string, string) {
	if deep <= 0 || m.Intn(3) == 0 {
		return m.simple(deep)
	}
	part := func() (string, string) { return m.list(deep-1, false) }
	a, toldA := part()
	b, toldB := part()
	c, toldC := part()
	s, told := "", ""
	switch m.Intn(7) {
	case 0:
		s, told = "{ "+a+"}", toldA
	case 1:
		s, told = "if "+a+" then "+b+" fi", "if("+toldA+" "+toldB+" nop())"
	case 2:
		s, told = "if "+a+" then "+b+" else "+c+" fi", "if("+toldA+" "+toldB+" "+toldC+")"
	case 3:
		s, told = "while "+a+" do "+b+" done", "while("+toldA+" "+toldB+")"
	case 4:
		s, told = m.items(a, toldA, deep)
	case 5:
		s, told = m.cases(deep)
	default:
		return "fun" + m.one("()", " ( ) ", "()\n\n") + "{ " + a + "}", "fun:fun(" + toldA + ")"
	}
	turns, ahead, ends := m.turns(deep)
	return s + turns, ahead + told + ends
}

// turns makes turns, and what is told of them ahead of the command in them, and
// behind it.
func (m *maker) turns(deep int) (s, told, ends string) {
	for range m.Intn(5) / 3 {
		sign := m.one("<", ">", ">>", "<<<")
		word, atoms := m.word("", deep-1)
		s += " " + sign + m.one("", " ") + word
		ends += ")"
		told += map[string]string{"<": "redir1(", ">": "redir2(", ">>": "redir3(", "<<<": "here("}[sign] + valueTold(atoms) + " "
	}
	return s, told, ends
}

func (m *maker) items(body, toldBody string, deep int) (string, string) {
	s := "for " + m.one("i", "in", "do", "fi") + " in"
	name := strings.Fields(s)[1]
	var all []string
	for range m.Intn(4) {
		word, atoms := m.word("", deep-1)
		s += " " + word
		all = append(all, fieldTold(atoms))
	}
	if m.Intn(3) == 0 {
		s += " do"
		all = append(all, "'do'")
	}
	s += m.one(";", "\n", " ;\n;") + " do " + body + " done"
	if len(all) == 1 {
		return s, "for:" + name + "(" + all[0] + " " + toldBody + ")"
	}
	return s, "for:" + name + "(cat(" + strings.Join(all, " ") + ") " + toldBody + ")"
}

func (m *maker) cases(deep int) (string, string) {
	word, atoms := m.word("", deep-1)
	s, told := "case "+word+m.one(" ", "\n", " \n\n")+"in"+m.one(" ", "\n", "\n\n "), "case("+valueTold(atoms)
	for range m.Intn(3) {
		word, atoms := m.word("", deep-1)
		body, toldBody := m.list(deep-1, true)
		open := m.one("", "(", "( ")
		if m.inBracket {
			open = "("
		}
		s += open + word + ")" + body + m.one(" ;;", " ;;\n\n")
		told += " " + liveTold(atoms) + " " + toldBody
	}
	return s + " esac", told + ")"
}

func (m *maker) simple(deep int) (string, string) {
	s, ahead, ends := m.turns(deep)
	var settings, words []string
	for i := range m.Intn(4) / 2 {
		word, atoms := m.word("", deep-1)
		s += fmt.Sprintf(" v%d=%s", i, word)
		settings = append(settings, fmt.Sprintf(":v%d(%s", i, valueTold(atoms)))
	}
	for i := range m.Intn(4) {
		begin := map[bool]string{true: "c", false: ""}[i == 0]
		word, atoms := m.word(begin, deep-1)
		s += " " + word
		words = append(words, fieldTold(atoms))
	}
	switch {
	case s == "":
		return ">o", "redir2('o' nop())"
	case len(words) > 0:
		for _, x := range settings {
			ahead, ends = ahead+"local"+x+" ", ends+")"
		}
		return s, ahead + "call(" + strings.Join(words, " ") + ")" + ends
	case len(settings) == 0:
		return s, ahead + "nop()" + ends
	case len(settings) == 1:
		return s, ahead + "set" + settings[0] + ")" + ends
	}
	return s, ahead + "seq(set" + strings.Join(settings, ") set") + "))" + ends
}

func TestMadeSources(t *testing.T) {
	m := &maker{Rand: rand.New(rand.NewSource(11))}
	parsed, long := 0, 0
	for range 8000 {
		s, want := m.list(m.Intn(4), true)
		l, err := Parse(s)
		if isAt(err, 0, api.ErrNest) || err == api.ErrMany || err == api.ErrLong {
			long++
			continue
		}
		parsed++
		if told(l) != want || err != nil {
			t.Fatalf("Parse(%q): %s, %v; not %s", s, told(l), err, want)
		}
	}
	if long > parsed/10 {
		t.Errorf("%d of %d were too much", long, parsed)
	}
}
