package builtin

import (
	"slices"
	"strings"
	"testing"

	"patois/api"
	"patois/pattern"
	"patois/text"
)

// heard is what the commands hear in these tests, unless one says otherwise.
const heard = "x\ny"

// l writes a list.
func l(args ...string) []string { return args }

// gives checks the outcome of a command that hears in.
func gives(t *testing.T, want Outcome, name, in string, args ...string) {
	t.Helper()
	if got, is := Do(name, in, args...); got != want || !is {
		t.Errorf("Do(%s, %.50q, %.200q): %+v, %v, not %+v", name, in, args, got, is, want)
	}
}

// says checks that a command says so, goes well, and leaves all to be heard.
func says(t *testing.T, out, name string, args ...string) {
	t.Helper()
	for _, in := range l("", heard, "\n") {
		gives(t, Outcome{Out: out, Rest: in}, name, in, args...)
	}
}

// holds checks that a command says nothing, and is a status 0 or 1.
func holds(t *testing.T, want bool, name string, args ...string) {
	t.Helper()
	o := Outcome{}
	if !want {
		o.Status = 1
	}
	for _, in := range l("", heard, "\n") {
		o.Rest = in
		gives(t, o, name, in, args...)
	}
}

// some is all lists of up to n of the items.
func some(n int, items ...string) [][]string {
	all := [][]string{nil}
	for from := 0; n > 0; n-- {
		to := len(all)
		for _, ahead := range all[from:to] {
			for _, item := range items {
				all = append(all, append(slices.Clone(ahead), item))
			}
		}
		from = to
	}
	return all
}

// P8.1

var all = []string{"add", "cat", "echo", "eq", "exit", "false", "less", "like", "put", "read", "true"}

func TestNames(t *testing.T) {
	if got := Names(); !slices.Equal(got, all) || !slices.IsSorted(got) {
		t.Error(got)
	}
}

func TestNamesAreNew(t *testing.T) {
	first, second := Names(), Names()
	first = first[:cap(first)]
	for i := range first {
		first[i] = "spoiled"
	}
	if !slices.Equal(second, all) || !slices.Equal(Names(), all) || !Is("add") || Is("spoiled") {
		t.Error(second, Names())
	}
	_ = append(second, "more")
	if !slices.Equal(Names(), all) || Is("more") {
		t.Error(Names())
	}
}

func TestIs(t *testing.T) {
	for _, name := range all {
		_, does := Do(name, "")
		if !Is(name) || !does {
			t.Error(name)
		}
	}
}

func TestNoneOfThem(t *testing.T) {
	wrong := l("", "ls", "*", " ", "Echo", "ECHO", "echo ", " echo", "ech", "echoo", "echo\n", "echo\x00", "cd", "set", "eval", "not", "test", "\xff", "a*", "e?", "adda", "addcat", "1")
	for _, name := range all {
		wrong = append(wrong, name+name, name[1:], name[:len(name)-1], strings.ToUpper(name), name+"s", "\\"+name)
	}
	for _, name := range wrong {
		if Is(name) {
			t.Errorf("Is(%q)", name)
		}
		for _, args := range [][]string{nil, l("a"), l("1", "2")} {
			if o, is := Do(name, heard, args...); is || o != (Outcome{}) {
				t.Errorf("Do(%q): %+v, %v", name, o, is)
			}
		}
	}
}

func TestEchoAndPut(t *testing.T) {
	for _, x := range []struct {
		args []string
		want string
	}{
		{nil, ""}, {l(), ""}, {l(""), ""}, {l("", ""), " "}, {l("a"), "a"}, {l("a", "b"), "a b"}, {l("a", "", "b"), "a  b"}, {l("", "a", ""), " a "},
		{l("-n", "a"), "-n a"}, {l("a\n"), "a\n"}, {l("a b", " c "), "a b  c "}, {l(`\n`, "*", "$x", "'"), `\n * $x '`}, {l("\x00\xff", "é"), "\x00\xff é"},
		{l("echo", "put"), "echo put"}, {l("a", "a", "a"), "a a a"}, {slices.Repeat(l("a"), api.MaxList+1), strings.Repeat("a ", api.MaxList) + "a"},
		{l(strings.Repeat("x", api.MaxString), "y"), strings.Repeat("x", api.MaxString) + " y"},
	} {
		says(t, x.want+"\n", "echo", x.args...)
		says(t, x.want, "put", x.args...)
	}
}

func TestCat(t *testing.T) {
	for _, in := range l("", "\n", "a", "a\n", heard, "\n\na\n\n", "\x00\xff", strings.Repeat("x\n", 1<<16)) {
		gives(t, Outcome{Out: in}, "cat", in)
		gives(t, Outcome{Out: in}, "cat", in, "f")
		gives(t, Outcome{Out: in}, "cat", in, "-", "f", "")
	}
}

func TestTrueAndFalse(t *testing.T) {
	for _, args := range [][]string{nil, l(""), l("a"), l("false"), l("true"), l("1", "2"), l("0")} {
		holds(t, true, "true", args...)
		holds(t, false, "false", args...)
	}
}

func TestEq(t *testing.T) {
	for _, x := range []struct {
		args []string
		want bool
	}{
		{l("a", "a"), true}, {l("", ""), true}, {l("a b", "a b"), true}, {l("\xff\x00", "\xff\x00"), true}, {l("*", "*"), true},
		{l("a", "b"), false}, {l("a", "A"), false}, {l("a", ""), false}, {l("", "a"), false}, {l("a", "a "), false}, {l("a", "aa"), false}, {l("1", "01"), false}, {l("*", "a"), false}, {l("a", "*"), false}, {l(`\a`, "a"), false},
		{nil, false}, {l(""), false}, {l("a"), false}, {l("a", "a", "a"), false}, {l("a", "a", ""), false}, {l("", "", ""), false}, {l("a", "a", "b", "b"), false},
	} {
		holds(t, x.want, "eq", x.args...)
	}
}

func TestLike(t *testing.T) {
	for _, x := range []struct {
		args []string
		want bool
	}{
		{l("ab", "a*"), true}, {l("ab", "ab"), true}, {l("", ""), true}, {l("", "*"), true}, {l("b", "[a-c]"), true}, {l("*", `\*`), true}, {l(".x", "*"), true}, {l("a\nb", "a?b"), true}, {l(`\`, `\`), true},
		{l("a*", "ab"), false}, {l("ab", "a"), false}, {l("a", ""), false}, {l("*", ""), false}, {l("a", `\*`), false}, {l("b", "[^b]"), false}, {l("[a]", "[a]"), false}, {l("", "?"), false},
		{nil, false}, {l("*"), false}, {l(""), false}, {l("a", "a", "a"), false}, {l("a", "b", "a"), false}, {l("a", "a", ""), false}, {l("", "*", "*"), false},
	} {
		holds(t, x.want, "like", x.args...)
	}
}

// The second is the pattern of the first, whatever both are.
func TestLikeIsMatch(t *testing.T) {
	texts := l("", "a", "b", "ab", "*", "a*", "?", "[a]", "[^a]", `\*`, `\`, "[", "a-b")
	for _, s := range texts {
		for _, p := range texts {
			holds(t, pattern.Match(p, s), "like", s, p)
		}
	}
}

// noNumbers are texts that are no numbers from 0 to 999999999.
var noNumbers = []string{"", " ", "a", "00", "01", "-1", "-0", "+1", " 1", "1 ", "1\n", "1.0", "1e3", "0x1", "1_0", "1000000000", "9999999999", "99999999999999999999", "2147483648", "18446744073709551616", "4294967297", "\xff", "١", "1\x00"}

func TestLess(t *testing.T) {
	for _, x := range [][2]string{{"0", "1"}, {"2", "10"}, {"9", "10"}, {"99", "100"}, {"0", "999999999"}, {"999999998", "999999999"}, {"5", "40"}} {
		holds(t, true, "less", x[0], x[1])
		holds(t, false, "less", x[1], x[0])
		holds(t, false, "less", x[0], x[0])
		holds(t, false, "less", x[1], x[1])
		holds(t, false, "less", x[0])
		holds(t, false, "less", x[0], x[1], x[1])
		holds(t, false, "less", x[0], x[1], "")
	}
	holds(t, false, "less")
	for _, no := range noNumbers {
		holds(t, false, "less", no)
		holds(t, false, "less", no, "1")
		holds(t, false, "less", "0", no)
		holds(t, false, "less", no, no)
	}
}

func TestAdd(t *testing.T) {
	for _, x := range []struct{ a, b, sum string }{
		{"2", "3", "5"}, {"0", "0", "0"}, {"0", "7", "7"}, {"9", "1", "10"}, {"999999998", "1", "999999999"}, {"999999999", "0", "999999999"},
		{"999999999", "1", "0"}, {"999999999", "2", "1"}, {"500000000", "500000000", "0"}, {"999999999", "999999999", "999999998"}, {"600000000", "400000007", "7"}, {"999999999", "100000001", "100000000"},
	} {
		says(t, x.sum+"\n", "add", x.a, x.b)
		says(t, x.sum+"\n", "add", x.b, x.a)
		holds(t, false, "add", x.a)
		holds(t, false, "add", x.a, x.b, "0")
		holds(t, false, "add", x.a, x.b, "")
	}
	holds(t, false, "add")
	for _, no := range noNumbers {
		holds(t, false, "add", no)
		holds(t, false, "add", no, "1")
		holds(t, false, "add", "1", no)
		holds(t, false, "add", no, no)
	}
}

func TestRead(t *testing.T) {
	for _, x := range []struct{ in, value, rest string }{
		{"x\ny", "x", "y"}, {"x", "x", ""}, {"x\n", "x", ""}, {"\n", "", ""}, {"\nx", "", "x"}, {"\n\n", "", "\n"}, {"x\n\n", "x", "\n"}, {"x\ny\nz\n", "x", "y\nz\n"}, {" x y \n z", " x y ", " z"},
		{"a\rb\x00\xff\nc", "a\rb\x00\xff", "c"}, {"x\r\ny", "x\r", "y"}, {`a\`, `a\`, ""}, {"a\\\nb", `a\`, "b"}, {`a\nb`, `a\nb`, ""}, {"é\n", "é", ""}, {"\t", "\t", ""},
		// What is too long for a variable is the run's to tell.
		{strings.Repeat("x", api.MaxString+1) + "\ny", strings.Repeat("x", api.MaxString+1), "y"},
	} {
		for _, name := range l("v", "_", "A1", "read", strings.Repeat("n", api.MaxName)) {
			gives(t, Outcome{Name: name, Value: x.value, Rest: x.rest}, "read", x.in, name)
		}
	}
}

// Where read fails, what could be heard still can.
func TestReadFails(t *testing.T) {
	for _, args := range [][]string{
		nil, l(""), l("*"), l("1"), l("1a"), l("a b"), l("a-b"), l("a\n"), l("$v"), l("é"), l(strings.Repeat("n", api.MaxName+1)),
		l("a", "b"), l("a", "a"), l("a", ""), l("", "a"), l("a", "b", "c"), l("-r", "v"),
	} {
		holds(t, false, "read", args...)
	}
	gives(t, Outcome{Status: 1}, "read", "", "v")
}

// Reading on and on takes all lines, one after the other.
func TestReadOn(t *testing.T) {
	for _, lines := range some(4, "", "a", "b c") {
		rest := strings.Join(lines, "\n") + "\n"
		if len(lines) == 0 {
			rest = ""
		}
		for _, line := range lines {
			o, is := Do("read", rest, "v")
			if !is || o.Value != line || o.Status != 0 || o.Name != "v" {
				t.Fatalf("%q: %+v", lines, o)
			}
			rest = o.Rest
		}
		gives(t, Outcome{Status: 1}, "read", rest, "v")
	}
}

func TestExit(t *testing.T) {
	ends := func(want int, args ...string) {
		t.Helper()
		for _, in := range l("", heard, "\n") {
			gives(t, Outcome{Rest: in, Status: want, End: true}, "exit", in, args...)
		}
	}
	ends(0)
	for n := range 256 {
		ends(n, text.Number(n))
	}
	for _, no := range append(l("256", "257", "300", "511", "512", "1000", "999999999"), noNumbers...) {
		ends(0, no)
		ends(0, no, "7")
	}
	ends(7, "7", "8")
	ends(7, "7", "x")
	ends(7, "7", "", "8")
	ends(255, "255", "256")
}

// A command changes none of its arguments, and reads none behind their end.
func TestArgumentsStay(t *testing.T) {
	for _, name := range all {
		for _, args := range some(3, "a", "1", "", "2") {
			room := append(slices.Clone(args), "7", "8")
			with, _ := Do(name, heard, room[:len(args)]...)
			without, _ := Do(name, heard, slices.Clip(slices.Clone(args))...)
			if with != without || !slices.Equal(room[:len(args)], args) || !slices.Equal(room[len(args):], l("7", "8")) {
				t.Errorf("%s of %q: %+v, %+v, %q", name, args, with, without, room)
			}
		}
	}
}

// Nothing is kept from one command to the next.
func TestNothingIsKept(t *testing.T) {
	before := map[string]Outcome{}
	for _, name := range all {
		before[name], _ = Do(name, heard, "5", "6")
	}
	for _, name := range all {
		Do(name, "other\n", "v")
		for _, again := range all {
			gives(t, before[again], again, heard, "5", "6")
		}
	}
}
