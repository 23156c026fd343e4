package cscan

import (
	"errors"
	"fmt"
	"strings"
	"testing"

	"patois/api"
)

var partNames = strings.Fields("none text var sub num")

// told is commands as text: each field that has not its zero value, and S always.
func told(l []Command) string {
	var all []string
	for _, c := range l {
		all = append(all, fmt.Sprint("cmd", c.At))
		for _, w := range c.Words {
			kind := "word"
			if w.Braced {
				kind = "braced"
			}
			all = append(all, fmt.Sprint(kind, w.At)+"["+toldParts(w.Parts)+"]")
		}
	}
	return strings.Join(all, " ")
}

func toldParts(parts []Part) string {
	var all []string
	for _, p := range parts {
		one := fmt.Sprint(partNames[p.Kind], p.At)
		if p.N != 0 {
			one += fmt.Sprint("#", p.N)
		}
		all = append(all, one+"("+p.S+")")
	}
	return strings.Join(all, " ")
}

// src is a source, and what is told of it.
type src [2]string

// scanned is the commands of a source that has no error.
func scanned(t *testing.T, s string) []Command {
	t.Helper()
	l, err := Scan(s)
	if err != nil {
		t.Fatalf("Scan(%.100q): %v", s, err)
	}
	return l
}

// scans checks the commands of sources.
func scans(t *testing.T, sources ...src) {
	t.Helper()
	for _, x := range sources {
		if l, err := Scan(x[0]); told(l) != x[1] || err != nil {
			t.Errorf("Scan(%.100q): %.300s, %v; not %.300s", x[0], told(l), err, x[1])
		}
	}
}

// isWord checks the parts of sources that are one word, and not braced.
func isWord(t *testing.T, sources ...src) {
	t.Helper()
	for _, x := range sources {
		scans(t, src{x[0], "cmd0 word0[" + x[1] + "]"})
	}
}

// refuses checks that sources are refused with that error at that place, also
// where other errors stand behind it.
func refuses(t *testing.T, want error, at int, sources ...string) {
	t.Helper()
	for _, s := range sources {
		l, err := Scan(s)
		var place *api.At
		if len(l) > 0 || !errors.As(err, &place) || *place != (api.At{Pos: at, Err: want}) || err != error(place) {
			t.Errorf("Scan(%.100q): %.300s, %v; not %v at %d", s, told(l), err, want, at)
		}
	}
}

// P14.1

func TestExamples(t *testing.T) {
	scans(t,
		src{`set x {a b}; put "$x [y]"`, "cmd0 word0[text0(set)] word4[text4(x)] braced6[text7(a b)] cmd13 word13[text13(put)] word17[var18(x) text20( ) sub21(y)]"},
		src{`a [b {]} c]`, "cmd0 word0[text0(a)] word2[sub2(b {]} c)]"},
	)
	refuses(t, api.ErrToken, 3, `{a}b`)
}

func TestUpToMaxSource(t *testing.T) {
	for _, n := range []int{api.MaxSource - 1, api.MaxSource} {
		s := strings.Repeat("a", n)
		isWord(t, src{s, "text0(" + s + ")"})
		scans(t, src{"{" + s[2:] + "}", "cmd0 braced0[text1(" + s[2:] + ")]"})
	}
	for _, c := range []string{" ", "\t", "\n", ";", "#"} {
		scans(t, src{strings.Repeat(c, api.MaxSource), ""})
	}
	if l := scanned(t, strings.Repeat("a;", api.MaxSource/2)); len(l) != api.MaxSource/2 {
		t.Error(len(l))
	}
	if l := scanned(t, strings.Repeat("a ", api.MaxSource/2)); len(l) != 1 || len(l[0].Words) != api.MaxSource/2 {
		t.Error(len(l))
	}
}

// It is told ahead of all that is wrong in the source, and has no place.
func TestPastMaxSource(t *testing.T) {
	for _, n := range []int{api.MaxSource + 1, api.MaxSource + 2, 3 * api.MaxSource} {
		for _, c := range []string{"a", "{", "[", `"`, " ", "#", "$"} {
			if l, err := Scan(strings.Repeat(c, n)); len(l) > 0 || err != api.ErrLong {
				t.Errorf("Scan of %d %q: %d commands, %v", n, c, len(l), err)
			}
		}
	}
}

func TestCommandsOfNoWords(t *testing.T) {
	scans(t,
		src{"", ""}, src{" ", ""}, src{"\t \t", ""}, src{"\n", ""}, src{";", ""}, src{"\n;\n ; \t;;", ""},
		src{";a", "cmd1 word1[text1(a)]"}, src{"a;", "cmd0 word0[text0(a)]"}, src{" \n;\ta ;\n\n", "cmd4 word4[text4(a)]"},
	)
}

func TestWhatPartsCommands(t *testing.T) {
	const two = "cmd0 word0[text0(a)] cmd%d word%d[text%d(b)]"
	for _, parting := range []string{";", "\n", ";;", "\n\n", " ; ", "\t\n\t", "; \n;", ";#c\n", " ;\t#;c;\n ", "\n#\n"} {
		n := len(parting) + 1
		scans(t, src{"a" + parting + "b", fmt.Sprintf(two, n, n, n)})
	}
	scans(t,
		src{"{a};{b}", "cmd0 braced0[text1(a)] cmd4 braced4[text5(b)]"}, src{"\"a\"\n\"b\"", "cmd0 word0[text1(a)] cmd4 word4[text5(b)]"},
		src{"[a];[b]", "cmd0 word0[sub0(a)] cmd4 word4[sub4(b)]"}, src{"$x\n$1;$*", "cmd0 word0[var0(x)] cmd3 word3[num3#1()] cmd6 word6[var6(*)]"},
	)
}

func TestWhatPartsWords(t *testing.T) {
	for _, parting := range []string{" ", "\t", "  ", " \t ", "\t\t\t"} {
		n := len(parting) + 1
		scans(t,
			src{"a" + parting + "b", fmt.Sprintf("cmd0 word0[text0(a)] word%d[text%d(b)]", n, n)},
			src{parting + "a", fmt.Sprintf("cmd%d word%d[text%d(a)]", n-1, n-1, n-1)},
			src{"a" + parting, "cmd0 word0[text0(a)]"},
			src{"a" + parting + ";" + parting + "b", fmt.Sprintf("cmd0 word0[text0(a)] cmd%d word%d[text%d(b)]", 2*n, 2*n, 2*n)},
		)
	}
	for _, c := range []string{"\r", "\v", "\f", "\x00", "\u00a0", ",", "&", "|"} {
		isWord(t, src{"a" + c + "b", "text0(a" + c + "b)"})
	}
}

// A command may begin at the source's beginning, and behind what parts commands,
// with blanks between.
func TestComments(t *testing.T) {
	scans(t,
		src{"#", ""}, src{"#a b;c", ""}, src{" \t# {\"[$", ""}, src{"#\n", ""}, src{"#a\n#b\n", ""}, src{";#", ""}, src{"##", ""},
		src{"#a\nb", "cmd3 word3[text3(b)]"}, src{"#a;b\nc", "cmd5 word5[text5(c)]"}, src{"#a\\\nb", "cmd4 word4[text4(b)]"}, src{"#{\n}", "cmd3 word3[text3(})]"},
		src{"a;#b", "cmd0 word0[text0(a)]"}, src{"a; #b\nc", "cmd0 word0[text0(a)] cmd6 word6[text6(c)]"}, src{"a\n#b;c\n;d", "cmd0 word0[text0(a)] cmd8 word8[text8(d)]"},
		src{"{a}\n#{", "cmd0 braced0[text1(a)]"}, src{"#a\n #b\n\tc", "cmd8 word8[text8(c)]"},
	)
}

func TestNoComments(t *testing.T) {
	scans(t,
		src{"a #b", "cmd0 word0[text0(a)] word2[text2(#b)]"}, src{"a#b", "cmd0 word0[text0(a#b)]"}, src{"a # b", "cmd0 word0[text0(a)] word2[text2(#)] word4[text4(b)]"},
		src{`\#a b`, "cmd0 word0[text0(#a)] word4[text4(b)]"}, src{`"#a" b`, "cmd0 word0[text1(#a)] word5[text5(b)]"}, src{"{#a} #", "cmd0 braced0[text1(#a)] word5[text5(#)]"},
		src{"$x#", "cmd0 word0[var0(x) text2(#)]"}, src{"[#\n]#", "cmd0 word0[sub0(#\n) text4(#)]"}, src{"a #;b", "cmd0 word0[text0(a)] word2[text2(#)] cmd4 word4[text4(b)]"},
	)
	refuses(t, api.ErrToken, 3, "{a}#", `"a"#b`)
	refuses(t, api.ErrBrace, 4, "a # {", "#a;\n{")
}

// Of all bytes, only these part or end words, begin words that are not bare, or
// are not themselves in one.
func TestEveryByte(t *testing.T) {
	for i := range 256 {
		c := string([]byte{byte(i)})
		if strings.Contains(" \t\n;", c) {
			scans(t, src{c, ""}, src{"a" + c, "cmd0 word0[text0(a)]"})
			continue
		}
		if !strings.Contains(`{"#[\`, c) {
			isWord(t, src{c, "text0(" + c + ")"}, src{c + c, "text0(" + c + c + ")"})
		}
		if !strings.Contains(`[\`, c) {
			isWord(t, src{"a" + c, "text0(a" + c + ")"}, src{"a" + c + ".", "text0(a" + c + ".)"})
		}
		if !strings.Contains("nt", c) {
			isWord(t, src{`\` + c, "text0(" + c + ")"}, src{`a\` + c + "b", "text0(a" + c + "b)"}, src{`"\` + c + `"`, "text1(" + c + ")"})
		}
	}
}
