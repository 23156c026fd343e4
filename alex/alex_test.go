package alex

import (
	"errors"
	"fmt"
	"strings"
	"testing"

	"patois/api"
)

var (
	tokenNames = strings.Fields("end line ; ;; && || | ( ) < > >> <<< word")
	partNames  = strings.Fields("none text dead var sub num many")
)

// told is tokens as text: each field that has not its zero value, and S always.
func told(l []Token) string {
	var all []string
	for _, t := range l {
		one := fmt.Sprint(tokenNames[t.Kind], t.At)
		if t.Kind == TWord || len(t.Parts) > 0 {
			one += "[" + toldParts(t.Parts) + "]"
		}
		all = append(all, one)
	}
	return strings.Join(all, " ")
}

func toldParts(parts []Part) string {
	var all []string
	for _, p := range parts {
		one := fmt.Sprint(partNames[p.Kind], p.At)
		if p.Quoted {
			one += "q"
		}
		if p.N != 0 {
			one += fmt.Sprint("#", p.N)
		}
		all = append(all, one+"("+p.S+")")
	}
	return strings.Join(all, " ")
}

// src is a source, and what is told of it.
type src [2]string

// lexed is the tokens of a source that has some.
func lexed(t *testing.T, s string) []Token {
	t.Helper()
	l, err := Lex(s)
	if err != nil {
		t.Fatalf("Lex(%.100q): %v", s, err)
	}
	return l
}

// lexes checks the tokens of sources.
func lexes(t *testing.T, sources ...src) {
	t.Helper()
	for _, x := range sources {
		if l, err := Lex(x[0]); told(l) != x[1] || err != nil {
			t.Errorf("Lex(%.100q): %.300s, %v; not %.300s", x[0], told(l), err, x[1])
		}
	}
}

// isWord checks the parts of sources that are one word.
func isWord(t *testing.T, sources ...src) {
	t.Helper()
	for _, x := range sources {
		lexes(t, src{x[0], fmt.Sprintf("word0[%s] end%d", x[1], len(x[0]))})
	}
}

// refuses checks that sources are refused with that error at that place, also
// where other errors stand behind it.
func refuses(t *testing.T, want error, at int, sources ...string) {
	t.Helper()
	for _, s := range sources {
		l, err := Lex(s)
		var place *api.At
		if len(l) > 0 || !errors.As(err, &place) || *place != (api.At{Pos: at, Err: want}) || err != error(place) {
			t.Errorf("Lex(%.100q): %.300s, %v; not %v at %d", s, told(l), err, want, at)
		}
	}
}

// P10.1

func TestExamples(t *testing.T) {
	lexes(t,
		src{`a "$x"b>f`, "word0[text0(a)] word2[dead2() var3q(x) text6(b)] >7 word8[text8(f)] end9"},
		src{`$(a (b) ')')c`, "word0[sub0(a (b) ')') text12(c)] end13"},
	)
	refuses(t, api.ErrQuote, 0, "'a")
	refuses(t, api.ErrToken, 2, "a & b")
}

func TestUpToMaxSource(t *testing.T) {
	for _, n := range []int{api.MaxSource - 1, api.MaxSource} {
		s := strings.Repeat("a", n)
		isWord(t, src{s, "text0(" + s + ")"})
	}
	for _, s := range []string{strings.Repeat(" ", api.MaxSource), "#" + strings.Repeat("x", api.MaxSource-1)} {
		lexes(t, src{s, fmt.Sprint("end", api.MaxSource)})
	}
	if l := lexed(t, strings.Repeat("\n", api.MaxSource)); len(l) != api.MaxSource+1 {
		t.Error(len(l))
	}
}

// It is told ahead of all that is wrong in the source, and has no place.
func TestPastMaxSource(t *testing.T) {
	for _, n := range []int{api.MaxSource + 1, api.MaxSource + 2, 3 * api.MaxSource} {
		for _, c := range []string{"a", "&", "'", `"`, " ", "("} {
			if l, err := Lex(strings.Repeat(c, n)); len(l) > 0 || err != api.ErrLong {
				t.Errorf("Lex of %d %q: %d tokens, %v", n, c, len(l), err)
			}
		}
	}
}

func TestTheEnd(t *testing.T) {
	lexes(t,
		src{"", "end0"}, src{" ", "end1"}, src{" \t \t", "end4"}, src{"#", "end1"},
		src{"# a 'b & ${", "end11"}, src{"\n", "line0 end1"}, src{"a ", "word0[text0(a)] end2"},
	)
}

func TestSigns(t *testing.T) {
	for kind, sign := range tokenNames[:TWord] {
		if kind == TEnd {
			continue
		}
		if kind == TLine {
			sign = "\n"
		}
		n := len(sign)
		lexes(t,
			src{sign, fmt.Sprintf("%s0 end%d", tokenNames[kind], n)},
			src{" \t" + sign + "\t ", fmt.Sprintf("%s2 end%d", tokenNames[kind], n+4)},
			src{"a" + sign + "b", fmt.Sprintf("word0[text0(a)] %s1 word%d[text%d(b)] end%d", tokenNames[kind], n+1, n+1, n+2)},
			src{"a " + sign + " b", fmt.Sprintf("word0[text0(a)] %s2 word%d[text%d(b)] end%d", tokenNames[kind], n+3, n+3, n+4)},
		)
	}
}

func TestTheLongestSign(t *testing.T) {
	lexes(t,
		src{";;;", ";;0 ;2 end3"}, src{";;;;", ";;0 ;;2 end4"}, src{"; ;;", ";0 ;;2 end4"}, src{"; ;", ";0 ;2 end3"},
		src{"|||", "||0 |2 end3"}, src{"| ||", "|0 ||2 end4"}, src{"||||", "||0 ||2 end4"},
		src{"&&&&", "&&0 &&2 end4"}, src{"&&|", "&&0 |2 end3"},
		src{"<<", "<0 <1 end2"}, src{"<<<", "<<<0 end3"}, src{"<<<<", "<<<0 <3 end4"}, src{"<<<<<", "<<<0 <3 <4 end5"},
		src{"<<<<<<", "<<<0 <<<3 end6"}, src{"<< <", "<0 <1 <3 end4"},
		src{">>>", ">>0 >2 end3"}, src{">>>>", ">>0 >>2 end4"}, src{"> >>", ">0 >>2 end4"}, src{"<>", "<0 >1 end2"}, src{"><", ">0 <1 end2"},
		src{"()", "(0 )1 end2"}, src{"((", "(0 (1 end2"}, src{"\n\n", "line0 line1 end2"}, src{";\n;", ";0 line1 ;2 end3"},
	)
}

func TestOneAndAlone(t *testing.T) {
	refuses(t, api.ErrToken, 0, "&", "& &", "&a", "&;", "&\n", "& '", `& "`, "& $(", "& ${", "&#", "&|", "&"+strings.Repeat(" ", api.MaxSource-1))
	refuses(t, api.ErrToken, 1, "a&", "a&b", " &", "\t&", ";&", "|&", "(&)", "\n&", ">&1", "a& &&")
	refuses(t, api.ErrToken, 2, "&&&", "a & b", "''&", `""&`, "$x&", `\&&`, "$#&")
	refuses(t, api.ErrToken, 4, "&&&&&", "'a' & b", "${x}&")
	lexes(t,
		src{"a&&b", "word0[text0(a)] &&1 word3[text3(b)] end4"},
		src{`\&`, "word0[dead0(&)] end2"}, src{`'&'"&"`, "word0[dead0(&) dead3(&)] end6"}, src{"#&\n", "line2 end3"},
	)
}

func TestComments(t *testing.T) {
	lexes(t,
		src{"#a\nb", "line2 word3[text3(b)] end4"}, src{" #a\n#b\n", "line3 line6 end7"}, src{"#\n", "line1 end2"},
		src{"a #b", "word0[text0(a)] end4"}, src{"a;#b", "word0[text0(a)] ;1 end4"}, src{"a|#b\nc", "word0[text0(a)] |1 line4 word5[text5(c)] end6"},
		src{"(#)", "(0 end3"}, src{">#a", ">0 end3"}, src{"\t## '\"$(\\\n#", "line9 end11"}, src{"#a\\\nb", "line3 word4[text4(b)] end5"},
		src{"a#b", "word0[text0(a#b)] end3"}, src{"a# b", "word0[text0(a#)] word3[text3(b)] end4"}, src{"a##", "word0[text0(a##)] end3"},
		src{"''#", "word0[dead0() text2(#)] end3"}, src{`"a"#b`, "word0[dead0(a) text3(#b)] end5"}, src{`\##`, "word0[dead0(#) text2(#)] end3"},
		src{"$x#", "word0[var0(x) text2(#)] end3"}, src{"$##", "word0[many0() text2(#)] end3"}, src{"$(a)#b", "word0[sub0(a) text4(#b)] end6"},
		src{"${x}#b", "word0[var0(x) text4(#b)] end6"}, src{`"#"`, "word0[dead0(#)] end3"}, src{"'#'", "word0[dead0(#)] end3"}, src{`\#`, "word0[dead0(#)] end2"},
	)
}

// Of all bytes, only these end a word, begin a comment, or begin parts that are
// no text.
func TestEveryByte(t *testing.T) {
	for i := range 256 {
		c := string([]byte{byte(i)})
		if strings.Contains(" \t\n;&|()<>#\\'\"", c) {
			continue
		}
		isWord(t, src{c, "text0(" + c + ")"}, src{c + c, "text0(" + c + c + ")"},
			src{`\` + c, "dead0(" + c + ")"}, src{"'" + c + "'", "dead0(" + c + ")"})
	}
}
