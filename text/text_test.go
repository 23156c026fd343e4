package text

import (
	"math"
	"strconv"
	"strings"
	"testing"

	"patois/api"
)

// outside is places that no source of up to MaxSource bytes has.
var outside = []int{math.MinInt, math.MinInt + 1, -api.MaxSource, -1, api.MaxSource + 1, math.MaxInt - 1, math.MaxInt}

// samples is sources with the edges of lines, names and bytes in them.
func samples() []string {
	every := make([]byte, 256)
	for i := range every {
		every[i] = byte(i)
	}
	return []string{
		"", "a", "\n", "\n\n", "\na", "a\n", "ab\ncd", "ab\n\ncd\n", "a\r\nb", "\x00\n\xff",
		"é\nü", "9a_B7 _x-1", string(every), strings.Repeat("\n", 50), strings.Repeat("xy\n", 20) + "z",
	}
}

func mustNew(t *testing.T, s string) *Source {
	t.Helper()
	made, err := New(s)
	if err != nil || made == nil {
		t.Fatalf("New of %d bytes: %v, %v", len(s), made, err)
	}
	return made
}

// P1.1

func TestNewUpToMaxSource(t *testing.T) {
	for _, n := range []int{0, 1, api.MaxSource - 1, api.MaxSource} {
		if got := mustNew(t, strings.Repeat("a", n)).Len(); got != n {
			t.Errorf("Len of %d bytes: %d", n, got)
		}
	}
}

func TestNewPastMaxSource(t *testing.T) {
	for _, n := range []int{api.MaxSource + 1, api.MaxSource + 2, 4 * api.MaxSource} {
		if s, err := New(strings.Repeat("a", n)); s != nil || err != api.ErrLong {
			t.Errorf("New of %d bytes: %v, %v", n, s, err)
		}
	}
}

// MaxSource is of bytes, not of runes.
func TestNewCountsBytes(t *testing.T) {
	if s := mustNew(t, strings.Repeat("é", api.MaxSource/2)); s.Len() != api.MaxSource {
		t.Error(s.Len())
	}
	if s, err := New(strings.Repeat("é", api.MaxSource/2) + "a"); s != nil || err != api.ErrLong {
		t.Error(s, err)
	}
}

func TestByte(t *testing.T) {
	for _, all := range samples() {
		s := mustNew(t, all)
		for i := range len(all) {
			if c, is := s.Byte(i); c != all[i] || !is {
				t.Errorf("Byte(%d) of %q: %d, %v", i, all, c, is)
			}
		}
		for _, i := range append([]int{len(all), len(all) + 1}, outside...) {
			if c, is := s.Byte(i); c != 0 || is {
				t.Errorf("Byte(%d) of %q: %d, %v", i, all, c, is)
			}
		}
	}
}

func TestSliceOfExamples(t *testing.T) {
	s := mustNew(t, "ab\ncd")
	for _, x := range []struct {
		from, to int
		want     string
	}{
		{1, 9, "b\ncd"}, {0, 5, "ab\ncd"}, {0, 1, "a"}, {4, 5, "d"}, {-5, 2, "ab"}, {-5, 99, "ab\ncd"},
		{math.MinInt, math.MaxInt, "ab\ncd"}, {math.MinInt, 1, "a"}, {4, math.MaxInt, "d"},
		{0, 0, ""}, {3, 3, ""}, {5, 5, ""}, {4, 1, ""}, {5, 0, ""}, {9, 99, ""}, {99, 9, ""}, {5, 6, ""},
		{-9, -1, ""}, {-1, 0, ""}, {-1, -9, ""}, {math.MaxInt, math.MinInt, ""}, {2, math.MinInt, ""}, {math.MaxInt, 2, ""},
	} {
		if got := s.Slice(x.from, x.to); got != x.want {
			t.Errorf("Slice(%d, %d): %q, not %q", x.from, x.to, got, x.want)
		}
	}
}

// A byte is in a slice if its place is from `from` on and ahead of `to`.
func TestSliceByteForByte(t *testing.T) {
	for _, all := range samples()[:12] {
		s := mustNew(t, all)
		for from := -3; from < len(all)+3; from++ {
			for to := -3; to < len(all)+3; to++ {
				var want []byte
				for i := range len(all) {
					if from <= i && i < to {
						want = append(want, all[i])
					}
				}
				if got := s.Slice(from, to); got != string(want) {
					t.Errorf("Slice(%d, %d) of %q: %q, not %q", from, to, all, got, want)
				}
			}
		}
	}
}

func TestHas(t *testing.T) {
	s := mustNew(t, "ab\ncd")
	for _, x := range []struct {
		i    int
		t    string
		want bool
	}{
		{0, "ab", true}, {0, "ab\ncd", true}, {2, "\n", true}, {3, "cd", true}, {4, "d", true},
		{0, "ab\ncde", false}, {1, "ab", false}, {0, "b", false}, {0, "AB", false}, {3, "d", false},
		{4, "dd", false}, {4, "d\x00", false}, {5, "d", false}, {5, "\x00", false}, {6, "a", false}, {-1, "a", false},
		{0, "", true}, {3, "", true}, {5, "", true}, {6, "", false}, {-1, "", false},
	} {
		if got := s.Has(x.i, x.t); got != x.want {
			t.Errorf("Has(%d, %q): %v", x.i, x.t, got)
		}
	}
	for _, i := range outside {
		if s.Has(i, "") || s.Has(i, "a") {
			t.Errorf("Has(%d)", i)
		}
	}
}

func TestHasLongerThanAnySource(t *testing.T) {
	full := strings.Repeat("a", api.MaxSource)
	s := mustNew(t, full)
	if !s.Has(0, full) || s.Has(0, full+"a") || s.Has(1, full) || !s.Has(1, full[1:]) || !s.Has(api.MaxSource, "") || s.Has(api.MaxSource, "a") {
		t.Error("Has of a full source")
	}
}

func TestEmptySource(t *testing.T) {
	s := mustNew(t, "")
	if s.Len() != 0 || s.Lines() != 1 || s.Slice(0, 1) != "" || s.Slice(-1, 1) != "" || s.Name(0) != "" {
		t.Error("an empty source has something")
	}
	if !s.Has(0, "") || s.Has(0, "a") || s.Has(1, "") || s.Has(-1, "") {
		t.Error("Has of an empty source")
	}
	if line, column := s.Place(0); line != 1 || column != 1 {
		t.Error(line, column)
	}
	if line, column := s.Place(1); line != 0 || column != 0 {
		t.Error(line, column)
	}
}

func TestSourcesStandApart(t *testing.T) {
	a, b := mustNew(t, "ab"), mustNew(t, "\ncd")
	if a.Len() != 2 || b.Len() != 3 || a.Lines() != 1 || b.Lines() != 2 || a.Name(0) != "ab" || b.Name(1) != "cd" {
		t.Error("one source shows in another")
	}
}

// P1.2

func TestPlaceOfExamples(t *testing.T) {
	s := mustNew(t, "ab\ncd")
	for i, want := range [][2]int{{1, 1}, {1, 2}, {1, 3}, {2, 1}, {2, 2}, {2, 3}, {0, 0}, {0, 0}} {
		if line, column := s.Place(i); line != want[0] || column != want[1] {
			t.Errorf("Place(%d): %d, %d", i, line, column)
		}
	}
}

// Walked from the first byte on, a newline is the last one of its line.
func TestPlaceWalked(t *testing.T) {
	long := strings.Repeat("a\n", api.MaxSource/2)
	for _, all := range append(samples(), strings.Repeat("a", api.MaxSource), long) {
		s := mustNew(t, all)
		line, column := 1, 1
		for i := 0; i <= len(all); i++ {
			if l, c := s.Place(i); l != line || c != column {
				t.Fatalf("Place(%d) of %.20q: %d, %d, not %d, %d", i, all, l, c, line, column)
			}
			column++
			if i < len(all) && all[i] == 10 {
				line, column = line+1, 1
			}
		}
		if s.Lines() != line {
			t.Errorf("Lines of %.20q: %d, not %d", all, s.Lines(), line)
		}
	}
}

func TestPlaceOfNone(t *testing.T) {
	for _, all := range samples() {
		s := mustNew(t, all)
		for _, i := range append([]int{len(all) + 1, len(all) + 2}, outside...) {
			if line, column := s.Place(i); line != 0 || column != 0 {
				t.Errorf("Place(%d) of %q: %d, %d", i, all, line, column)
			}
		}
	}
}

func TestLines(t *testing.T) {
	for all, want := range map[string]int{"": 1, "a": 1, "\n": 2, "a\n": 2, "\n\n": 3, "ab\ncd": 2, "a\rb": 1, "a\r\nb": 2, "a\vb\fc\x85d\u2028e": 1} {
		if got := mustNew(t, all).Lines(); got != want {
			t.Errorf("Lines of %q: %d, not %d", all, got, want)
		}
	}
	if got := mustNew(t, strings.Repeat("\n", api.MaxSource)).Lines(); got != api.MaxSource+1 {
		t.Error(got)
	}
}

// P1.3

const (
	letters = "abcdefghijklmnopqrstuvwxyzABCDEFGHIJKLMNOPQRSTUVWXYZ_"
	digits  = "0123456789"
)

func TestNameOfEveryByte(t *testing.T) {
	for n := range 256 {
		c := string([]byte{byte(n)})
		starts := strings.Contains(letters, c)
		follows := strings.Contains(letters+digits, c)
		if Name(c) != starts {
			t.Errorf("Name(%q): %v", c, Name(c))
		}
		if Name("a"+c) != follows || Name("a"+c+"b") != follows {
			t.Errorf("Name(%q): %v", "a"+c, Name("a"+c))
		}
	}
}

func TestName(t *testing.T) {
	for s, want := range map[string]bool{
		"a1": true, "1a": false, "": false, "_": true, "__": true, "_0": true, "Z9_": true, "0": false,
		"a-b": false, "a b": false, " a": false, "a ": false, "a\n": false, "a\x00": false, "é": false, "aé": false, "*": false,
	} {
		if Name(s) != want {
			t.Errorf("Name(%q): %v", s, Name(s))
		}
	}
}

func TestNameUpToMaxName(t *testing.T) {
	for n, want := range map[int]bool{1: true, api.MaxName - 1: true, api.MaxName: true, api.MaxName + 1: false, 2 * api.MaxName: false, api.MaxSource: false} {
		for _, c := range []string{"a", "_"} {
			if Name(strings.Repeat(c, n)) != want {
				t.Errorf("Name of %d bytes: %v", n, !want)
			}
		}
	}
	if !Name("a"+strings.Repeat("9", api.MaxName-1)) || Name(strings.Repeat("a", api.MaxName-1)+"-") {
		t.Error("Name of MaxName bytes")
	}
}

func TestSourceName(t *testing.T) {
	s := mustNew(t, "9a_B7 _x-1")
	for i, want := range []string{"", "a_B7", "_B7", "B7", "", "", "_x", "x", "", "", ""} {
		if got := s.Name(i); got != want {
			t.Errorf("Name(%d): %q, not %q", i, got, want)
		}
	}
	for _, i := range append([]int{11, 12}, outside...) {
		if got := s.Name(i); got != "" {
			t.Errorf("Name(%d): %q", i, got)
		}
	}
	if got := mustNew(t, "ab\ncd").Name(0); got != "ab" {
		t.Error(got)
	}
}

func TestSourceNameOfEveryByte(t *testing.T) {
	for n := range 256 {
		c := string([]byte{byte(n)})
		wantFirst, wantSecond := "", "a"
		if strings.Contains(letters, c) {
			wantFirst = c
		}
		if strings.Contains(letters+digits, c) {
			wantSecond = "a" + c
		}
		if got := mustNew(t, c).Name(0); got != wantFirst {
			t.Errorf("Name(0) of %q: %q", c, got)
		}
		if got := mustNew(t, "a"+c+"-b").Name(0); got != wantSecond {
			t.Errorf("Name(0) of %q: %q", "a"+c, got)
		}
	}
}

func TestSourceNameLongerThanMaxName(t *testing.T) {
	for _, n := range []int{api.MaxName, api.MaxName + 1, api.MaxSource} {
		all := strings.Repeat("x", n)
		if got := mustNew(t, all).Name(0); got != all {
			t.Errorf("Name(0) of %d bytes: %d", n, len(got))
		}
		if got := mustNew(t, all).Name(n - 1); got != "x" {
			t.Errorf("Name(%d): %q", n-1, got)
		}
	}
}

// P1.4

func TestBlank(t *testing.T) {
	for c := range 256 {
		if Blank(byte(c)) != (c == 32 || c == 9 || c == 10) {
			t.Error(c)
		}
	}
}

func TestNumber(t *testing.T) {
	for n, want := range map[int]string{
		0: "0", 7: "7", 10: "10", 70: "70", 999999999: "999999999", 1000000000: "1000000000",
		-1: "-1", -5: "-5", -10: "-10", -999999999: "-999999999",
	} {
		if got := Number(n); got != want {
			t.Errorf("Number(%d): %q", n, got)
		}
	}
	for _, n := range []int{math.MinInt, math.MinInt + 1, math.MaxInt - 1, math.MaxInt} {
		if back, err := strconv.Atoi(Number(n)); back != n || err != nil {
			t.Errorf("Number(%d): %q", n, Number(n))
		}
	}
}

func TestParse(t *testing.T) {
	for s, want := range map[string]int{
		"0": 0, "1": 1, "9": 9, "10": 10, "70": 70, "100": 100, "123456789": 123456789, "999999998": 999999998, "999999999": 999999999,
	} {
		if n, is := Parse(s); n != want || !is {
			t.Errorf("Parse(%q): %d, %v", s, n, is)
		}
	}
}

func TestParseOfNoNumber(t *testing.T) {
	for _, s := range []string{
		"", "00", "07", "01", "000000000", "0999999999", "1000000000", "9999999999", "18446744073709551617", strings.Repeat("1", api.MaxSource),
		"-1", "-0", "-", "+1", "+", "1a", "a", "a1", "0x1", "0a", "1_0", "1.0", "1e3", " 1", "1 ", "1\n", "\x00", "1\x00", "１", "/", ":", "1/", "1:",
	} {
		if n, is := Parse(s); n != 0 || is {
			t.Errorf("Parse(%q): %d, %v", s, n, is)
		}
	}
}

func TestParseOfEveryByte(t *testing.T) {
	for c := range 256 {
		isDigit := '0' <= c && c <= '9'
		if n, is := Parse(string([]byte{'1', byte(c)})); is != isDigit || is && n != 10+c-'0' || !is && n != 0 {
			t.Errorf("Parse of 1 and byte %d: %d, %v", c, n, is)
		}
	}
}

func TestParseOfNumber(t *testing.T) {
	for n := 0; n <= 999999999; n = n*3 + 1 {
		for _, m := range []int{n, n + 1, n + 9} {
			if m > 999999999 {
				continue
			}
			if got, is := Parse(Number(m)); got != m || !is {
				t.Errorf("Parse(Number(%d)): %d, %v", m, got, is)
			}
			if got, is := Parse(Number(-m - 1)); got != 0 || is {
				t.Errorf("Parse(Number(%d)): %d, %v", -m-1, got, is)
			}
		}
	}
}
