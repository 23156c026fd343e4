package cscan

import (
	"errors"
	"math/rand"
	"reflect"
	"regexp"
	"strings"
	"testing"

	"patois/api"
)

// The chapter once more: what is closed found by all that is open at each byte,
// parts by one expression, a part a byte, and then those that are bytes made
// one. The tests below hold Scan against it.

// slowEnd is where the brace or bracket that s begins with is closed, or -1.
func slowEnd(s string) int {
	var open []byte
	for i := 0; i < len(s); i++ {
		inBraces := len(open) > 0 && open[len(open)-1] == '{'
		switch c := s[i]; {
		case c == '\\':
			i++
		case c == '{', c == '[' && !inBraces:
			open = append(open, c)
		case c == '}' && inBraces, c == ']' && !inBraces:
			open = open[:len(open)-1]
		}
		if len(open) == 0 {
			return i
		}
	}
	return -1
}

// slowScan is the commands of s, which is no longer than a source may be.
func slowScan(s string) ([]Command, error) {
	var l []Command
	fresh := true
	for i := 0; i < len(s); {
		switch c := s[i]; {
		case c == ' ' || c == '\t':
			i++
		case c == '\n' || c == ';':
			i++
			fresh = true
		case c == '#' && fresh:
			i += len(strings.SplitN(s[i:], "\n", 2)[0])
		default:
			w, end, err := slowWord(s, i)
			if err != nil {
				return nil, err
			}
			if fresh {
				l = append(l, Command{At: i})
			}
			l[len(l)-1].Words = append(l[len(l)-1].Words, w)
			i, fresh = end, false
		}
	}
	return l, nil
}

// slowWord is the word at i, and where it ends.
func slowWord(s string, i int) (Word, int, error) {
	w, end := Word{At: i}, 0
	var err error
	switch s[i] {
	case '{':
		n := slowEnd(s[i:])
		if n < 0 {
			return Word{}, 0, &api.At{Pos: i, Err: api.ErrBrace}
		}
		w.Braced, w.Parts, end = true, []Part{{Kind: PText, At: i + 1, S: s[i+1 : i+n]}}, i+n+1
	case '"':
		w.Parts, end, err = slowParts(s, i+1, `"`)
		if err == nil && end == len(s) {
			err = &api.At{Pos: i, Err: api.ErrQuote}
		}
		if w.Parts == nil {
			w.Parts = []Part{{Kind: PText, At: i}}
		}
		end++
	default:
		w.Parts, end, err = slowParts(s, i, " \t\n;")
		return w, end, err
	}
	if err == nil && end < len(s) && !strings.Contains(" \t\n;", s[end:end+1]) {
		err = &api.At{Pos: end, Err: api.ErrToken}
	}
	return w, end, err
}

var slowPart = regexp.MustCompile(`^(?s:(\\.?)|\$(\*|[A-Za-z_][A-Za-z_0-9]*)|\$([1-9])|(\[)|(.))`)

// slowParts is the parts from i up to one of ends, and where that is.
func slowParts(s string, i int, ends string) ([]Part, int, error) {
	var parts []Part
	for i < len(s) && !strings.Contains(ends, s[i:i+1]) {
		m := slowPart.FindStringSubmatch(s[i:])
		p, size := Part{Kind: PText, At: i, S: m[5]}, len(m[0])
		switch {
		case m[1] != "":
			p.S = map[string]string{`\n`: "\n", `\t`: "\t", `\`: `\`}[m[1]]
			if p.S == "" {
				p.S = m[1][1:]
			}
		case len(m[2]) > api.MaxName:
			return nil, 0, &api.At{Pos: i, Err: api.ErrName}
		case m[2] != "":
			p.Kind, p.S = PVar, m[2]
		case m[3] != "":
			p.Kind, p.N = PNum, int(m[3][0]-'0')
		case m[4] != "":
			n := slowEnd(s[i:])
			if n < 0 {
				return nil, 0, &api.At{Pos: i, Err: api.ErrParen}
			}
			p.Kind, p.S, size = PSub, s[i+1:i+n], n+1
		}
		if last := len(parts) - 1; last >= 0 && p.Kind == PText && parts[last].Kind == PText {
			parts[last].S += p.S
		} else {
			parts = append(parts, p)
		}
		i += size
	}
	return parts, i, nil
}

// holds checks Scan of s against the chapter.
func holds(t *testing.T, s string) {
	t.Helper()
	want, wrong := slowScan(s)
	l, err := Scan(s)
	if !reflect.DeepEqual(l, want) || !reflect.DeepEqual(err, wrong) {
		t.Fatalf("Scan(%q): %s, %v; not %s, %v", s, told(l), err, told(want), wrong)
	}
}

// Every source of up to five of these.
func TestAllShortSources(t *testing.T) {
	signs := strings.Split("a n 1 $ # { } [ ] \" \\ ;", " ")
	signs = append(signs, " ", "\n")
	some := []string{""}
	for range 5 {
		var longer []string
		for _, ahead := range some {
			for _, c := range signs {
				longer = append(longer, ahead+c)
				holds(t, ahead+c)
			}
		}
		some = longer
	}
}

// Longer ones, by a fixed rule: of single bytes, and of pieces that are often
// whole.
func TestManySources(t *testing.T) {
	r := rand.New(rand.NewSource(14))
	pieces := append(strings.Split("a1$#*{}[]\"\\;_0nt' \n\t", ""),
		"$x", "$*", "$9", "$0", "{}", "{a}", " {", "} ", "[a]", "[{]}", "{]}", "{[}", "\"\"", " \"a", "b\" ", "\\n", "\\t", "\\]", "\\}", "\\\"", "a", "set", " ", " ", "\n#c;d\n", "$"+fullName, "$"+fullName+"x", "é", "\x00\xff")
	for range 200000 {
		var b strings.Builder
		for range 1 + r.Intn(14) {
			b.WriteString(pieces[r.Intn(len(pieces))])
		}
		holds(t, b.String())
	}
}

// maker writes a source and, along with it, the commands that it has.
type maker struct {
	*rand.Rand
	strings.Builder
	commands []Command
}

func (m *maker) one(of ...string) string { return of[m.Intn(len(of))] }

// within is text in which each brace, and outside of braces each bracket, has
// its own.
func (m *maker) within(braces bool, deep int) string {
	var b strings.Builder
	for range m.Intn(4) {
		switch n := m.Intn(5); {
		case n == 0:
			b.WriteString(`\` + m.one("{", "}", "[", "]", `\`, "n", "\n", `"`))
		case n == 1 && deep > 0:
			b.WriteString("{" + m.within(true, deep-1) + "}")
		case n == 2 && deep > 0 && !braces:
			b.WriteString("[" + m.within(false, deep-1) + "]")
		case n == 2 && braces:
			b.WriteString(m.one("[", "]"))
		default:
			b.WriteString(m.one("a", " ", "$x", `"`, "#", ";", "\n", "$"+fullName+"x"))
		}
	}
	return b.String()
}

// text writes some bytes of a word; none of them would go on a name ahead.
func (m *maker) text(quoted bool) string {
	var b strings.Builder
	for range 1 + m.Intn(3) {
		x := [][2]string{{`\n`, "\n"}, {`\t`, "\t"}, {`\[`, "["}, {`\$`, "$"}, {`\\`, `\`}, {`\a`, "a"}, {`\"`, `"`}, {`\ `, " "}, {"-b", "-b"}, {"]", "]"}, {"}", "}"}, {".{", ".{"}, {"$-", "$-"}, {"\xff", "\xff"}, {"=#", "=#"}, {"$0", "$0"}}
		if quoted {
			x = append(x, [2]string{" ", " "}, [2]string{"\n", "\n"}, [2]string{";", ";"}, [2]string{"{", "{"}, [2]string{"#", "#"})
		}
		one := x[m.Intn(len(x))]
		m.WriteString(one[0])
		b.WriteString(one[1])
	}
	return b.String()
}

// parts writes parts of a word, of which no two neighbours are text.
func (m *maker) parts(quoted bool) []Part {
	var parts []Part
	for range 1 + m.Intn(4) {
		p := Part{Kind: 1 + m.Intn(PNum), At: m.Len()}
		if len(parts) > 0 && p.Kind == PText && parts[len(parts)-1].Kind == PText {
			p.Kind = PSub
		}
		switch p.Kind {
		case PText:
			p.S = m.text(quoted)
		case PVar:
			p.S = m.one("x", "*", "_1", fullName)
			m.WriteString("$" + p.S)
		case PSub:
			p.S = m.within(false, 4)
			m.WriteString("[" + p.S + "]")
		case PNum:
			p.N = 1 + m.Intn(9)
			m.WriteString("$" + string(rune('0'+p.N)))
		}
		parts = append(parts, p)
	}
	return parts
}

func (m *maker) word() Word {
	w := Word{At: m.Len()}
	switch m.Intn(4) {
	case 0:
		s := m.within(true, 4)
		m.WriteString("{" + s + "}")
		w.Braced, w.Parts = true, []Part{{Kind: PText, At: w.At + 1, S: s}}
	case 1:
		m.WriteString(`"`)
		w.Parts = m.parts(true)
		m.WriteString(`"`)
	case 2:
		m.WriteString(`""`)
		w.Parts = []Part{{Kind: PText, At: w.At}}
	default:
		w.Parts = m.parts(false)
	}
	return w
}

func (m *maker) source() string {
	for range m.Intn(5) {
		m.WriteString(m.one("", " ", "\t ", ";", "\n \n", "#a {\n", "; # b;\"[\n"))
		c := Command{At: m.Len()}
		for range 1 + m.Intn(4) {
			c.Words = append(c.Words, m.word())
			m.WriteString(m.one(" ", "\t", "  "))
		}
		m.commands = append(m.commands, c)
		m.WriteString(m.one(";", "\n", ";;", "\n#\n"))
	}
	return m.String()
}

// Sources made together with their commands; and with a byte too few, too many,
// or another.
func TestMadeSources(t *testing.T) {
	r := rand.New(rand.NewSource(15))
	for range 20000 {
		m := &maker{Rand: r}
		s := m.source()
		if l, err := Scan(s); !reflect.DeepEqual(l, m.commands) || err != nil {
			t.Fatalf("Scan(%q): %s, %v; not %s", s, told(l), err, told(m.commands))
		}
		if s == "" {
			continue
		}
		for range 5 {
			i, c := r.Intn(len(s)), m.one("{", "}", "[", "]", `"`, `\`, "$", "a", " ", ";", "#", "\n")
			holds(t, s[:i]+s[i+1:])
			holds(t, s[:i]+c+s[i:])
			holds(t, s[:i]+c+s[i+1:])
		}
	}
}

// moved is what Scan answers of a source that stands further behind, where a
// command may begin.
func moved(s string, by int) ([]Command, error) {
	l, err := Scan(s)
	var at *api.At
	if errors.As(err, &at) {
		return nil, &api.At{Pos: at.Pos + by, Err: at.Err}
	}
	for i := range l {
		l[i].At += by
		for j := range l[i].Words {
			l[i].Words[j].At += by
			for k := range l[i].Words[j].Parts {
				l[i].Words[j].Parts[k].At += by
			}
		}
	}
	return l, err
}

// A source behind another and a newline has its commands, or its error, there too.
func TestSourcesBehindSources(t *testing.T) {
	r := rand.New(rand.NewSource(16))
	bytes := "ab1$#*{}[]\"\\; \n"
	source := func() string {
		b := make([]byte, r.Intn(9))
		for i := range b {
			b[i] = bytes[r.Intn(len(bytes))]
		}
		return string(b)
	}
	for range 200000 {
		one, two := source(), source()
		first, err := Scan(one)
		if err != nil || strings.HasSuffix(one, `\`) {
			continue
		}
		second, wrong := moved(two, len(one)+1)
		both, err := Scan(one + "\n" + two)
		if wrong == nil {
			second = append(first, second...)
		}
		if told(both) != told(second) || !reflect.DeepEqual(err, wrong) {
			t.Fatalf("%q and %q: %s, %v; not %s, %v", one, two, told(both), err, told(second), wrong)
		}
	}
}
