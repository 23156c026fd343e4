package cparse

import (
	"errors"
	"math/rand"
	"reflect"
	"regexp"
	"strconv"
	"strings"
	"testing"

	"patois/api"
	"patois/core"
	"patois/cscan"
)

// The chapter once more, as texts: what is told of each command is a line in
// which N1 is the first word behind the key as a name, V2 the second one's
// value, P3 the third one's program. The tests below hold Parse against it.

// slowLines is the lines, by the key and how many words are behind it.
func slowLines() map[string]string {
	return map[string]string{
		"set 2": "set:N1(V2)", "if 2": "if(P1 P2 nop())", "if 3": "if(P1 P2 P3)", "while 2": "while(P1 P2)", "and 2": "and(P1 P2)", "or 2": "or(P1 P2)", "not 1": "not(P1)", "eval 1": "eval(V1)",
		"foreach 3": "for:N1(plain(split(V2)) P3)", "proc 2": "fun:N1(P2)", "from 2": "redir1(V1 P2)", "into 2": "redir2(V1 P2)", "onto 2": "redir3(V1 P2)", "with 2": "here(V1 P2)", "local 3": "local:N1(V2 P3)",
	}
}

// slowLine is the line of a command, or none.
func slowLine(key string, words int) string {
	line := ""
	switch {
	case key == "pipe" && words >= 2:
		for i := range words {
			line += " P" + strconv.Itoa(i+1)
		}
		return "pipe(" + line[1:] + ")"
	case key == "match" && words%2 == 1:
		for i := 2; i < words; i += 2 {
			line += " V" + strconv.Itoa(i) + " P" + strconv.Itoa(i+1)
		}
		return "case(V1" + line + ")"
	}
	return slowLines()[key+" "+strconv.Itoa(words)]
}

var (
	slowName = regexp.MustCompile(`^[A-Za-z_][A-Za-z_0-9]{0,19}$`)
	slowHole = regexp.MustCompile(`[NVP][0-9]+`)
)

// slowProgram is what is told of a text that stands at base, in so many
// brackets.
func slowProgram(s string, base, deep int) (string, error) {
	l, err := cscan.Scan(s)
	var at *api.At
	if errors.As(err, &at) {
		return "", &api.At{Pos: base + at.Pos, Err: at.Err}
	}
	var all []string
	for _, c := range l {
		made, err := slowCommand(c, base, deep)
		if err != nil {
			return "", err
		}
		all = append(all, made)
	}
	switch len(all) {
	case 0:
		return "nop()", err
	case 1:
		return all[0], err
	}
	return "seq(" + strings.Join(all, " ") + ")", err
}

// slowCommand is what is told of a command.
func slowCommand(c cscan.Command, base, deep int) (string, error) {
	var values []string
	for _, w := range c.Words {
		value, err := slowValue(w, base, deep)
		if err != nil {
			return "", err
		}
		values = append(values, value)
	}
	first, _ := cscan.Text(c.Words[0])
	isKey := false
	for _, key := range keys {
		isKey = isKey || key == first && !c.Words[0].Braced
	}
	if !isKey {
		return "call(" + strings.Join(values, " ") + ")", nil
	}
	line := slowLine(first, len(values)-1)
	if line == "" {
		return "", &api.At{Pos: base + c.At, Err: api.ErrForm}
	}
	var err error
	made := slowHole.ReplaceAllStringFunc(line, func(hole string) string {
		i, _ := strconv.Atoi(hole[1:])
		switch hole[0] {
		case 'V':
			return values[i]
		case 'P':
			return "eval(" + values[i] + ")"
		}
		name, _ := cscan.Text(c.Words[i])
		if !slowName.MatchString(name) {
			err = &api.At{Pos: base + c.Words[i].At, Err: api.ErrForm}
		}
		return name
	})
	return made, err
}

// slowValue is what is told of a word.
func slowValue(w cscan.Word, base, deep int) (string, error) {
	var all []string
	long := false
	for _, p := range w.Parts {
		switch p.Kind {
		case cscan.PText:
			all = append(all, "'"+p.S+"'")
			long = long || len(p.S) > api.MaxString
		case cscan.PVar:
			all = append(all, "flat($"+p.S+")")
		case cscan.PNum:
			all = append(all, "flat(pick"+strconv.Itoa(p.N)+"($*))")
		case cscan.PSub:
			if deep == api.MaxNest {
				return "", &api.At{Pos: base + p.At, Err: api.ErrNest}
			}
			made, err := slowProgram(p.S, base+p.At+1, deep+1)
			if err != nil {
				return "", err
			}
			all = append(all, "sub("+made+")")
		}
	}
	switch {
	case long:
		return "", &api.At{Pos: base + w.At, Err: api.ErrLong}
	case len(all) == 1:
		return all[0], nil
	}
	return "join(" + strings.Join(all, " ") + ")", nil
}

// holds checks Parse of s against the chapter. What is too much only as a
// program is refused behind all else.
func holds(t *testing.T, s string) {
	t.Helper()
	want, wrong := slowProgram(s, 0, 0)
	l, err := Parse(s)
	tooMuch := isAt(err, 0, api.ErrNest) || err == api.ErrMany
	switch at, is := err.(*api.At); {
	case tooMuch && wrong == nil && len(l) == 0:
	case told(l) != want || !reflect.DeepEqual(err, wrong):
		t.Fatalf("Parse(%q): %s, %v; not %s, %v", s, told(l), err, want, wrong)
	case err == nil && core.Check(l) != nil:
		t.Fatalf("Parse(%q): %s, %v", s, told(l), core.Check(l))
	case err != nil && (!is || at.Pos < 0 || at.Pos > len(s) || !isError(at.Err)):
		t.Fatalf("Parse(%q): %v", s, err)
	}
}

// Every source of up to five of these.
func TestAllShortSources(t *testing.T) {
	signs := []string{"set ", "if ", "match ", "x ", "{", "}", "[", "]", "\"", "$1", ";", "\\"}
	some := []string{""}
	for range 5 {
		var longer []string
		for _, ahead := range some {
			for _, c := range signs {
				longer = append(longer, ahead+c)
				holds(t, ahead+c)
			}
		}
		some = longer
	}
}

// Every key with every row of up to five such words.
func TestAllFormsOfWords(t *testing.T) {
	words := []string{" x", " 1", " $y", " [a]", " {b c}", " [set]", ` "d"`}
	for _, key := range keys {
		some := []string{key}
		for range 5 {
			var longer []string
			for _, ahead := range some {
				holds(t, ahead)
				for _, w := range words {
					longer = append(longer, ahead+w)
				}
			}
			some = longer
		}
		for _, s := range some[:2000] {
			holds(t, s)
			holds(t, `"a[`+s+`]" {`+key+"}")
		}
	}
}

// Longer ones, by a fixed rule: of pieces that are often whole.
func TestManySources(t *testing.T) {
	r := rand.New(rand.NewSource(15))
	pieces := append(strings.Split("a1$#*{}[]\"\\;_n \n", ""),
		"$x", "$*", "$9", " {}", " {a b}", " [a]", "[b ", "]", " \"a", "b\" ", " x ", " y", "; ", ";", "[;]", " {x} ", "\\]", "\\\"", " ", "\n#c;d\n")
	for _, key := range keys {
		pieces = append(pieces, key+" ", ";"+key+" x ", "["+key+" ")
	}
	for range 150000 {
		var b strings.Builder
		for range 1 + r.Intn(12) {
			b.WriteString(pieces[r.Intn(len(pieces))])
		}
		holds(t, b.String())
	}
}
