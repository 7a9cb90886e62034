package words

import (
	"math"
	"slices"
	"strings"
	"testing"
)

// P7.1: cut at each byte 10; an empty last piece goes, and no other one.
func TestLines(t *testing.T) {
	for _, c := range []struct {
		s    string
		want []string
	}{
		{"", nil},
		{"a", []string{"a"}},
		{"a\n", []string{"a"}},
		{"a\nb", []string{"a", "b"}},
		{"a\nb\n", []string{"a", "b"}},
		{"\n", []string{""}},
		{"\n\n", []string{"", ""}},
		{"a\n\n", []string{"a", ""}},
		{"\na", []string{"", "a"}},
		{"a\n\nb", []string{"a", "", "b"}},
		{" \n ", []string{" ", " "}},
		{"a\r\nb\r", []string{"a\r", "b\r"}},
		{"a # b\nc", []string{"a # b", "c"}},
		{"\xff\n\x00", []string{"\xff", "\x00"}},
		{"\u2028a\u0085b\v\f", []string{"\u2028a\u0085b\v\f"}},
	} {
		if got := Lines(c.s); !slices.Equal(got, c.want) {
			t.Errorf("P7.1: Lines(%q): %q, not %q", c.s, got, c.want)
		}
	}
}

// P7.1: what stands between blanks, without empty ones; from a # on nothing is a word.
func TestWords(t *testing.T) {
	for _, c := range []struct {
		s    string
		want []string
	}{
		{"", nil},
		{" ", nil},
		{"   ", nil},
		{"a", []string{"a"}},
		{" a", []string{"a"}},
		{"a ", []string{"a"}},
		{"a b", []string{"a", "b"}},
		{"  ab   cd  e ", []string{"ab", "cd", "e"}},
		{"a  b # c", []string{"a", "b"}},
		{"#", nil},
		{"# a", nil},
		{" #a b", nil},
		{"a#", []string{"a"}},
		{"a#b c", []string{"a"}},
		{"a b#c # d", []string{"a", "b"}},
		{"a ## b", []string{"a"}},
		{"a\tb c", []string{"a\tb", "c"}},
		{"a\nb\r c", []string{"a\nb\r", "c"}},
		{"# a\nb", nil},
		{"\u00a0 \u3000", []string{"\u00a0", "\u3000"}},
		{"\xff \x00\xfe", []string{"\xff", "\x00\xfe"}},
		{"run:3 lock:0:2", []string{"run:3", "lock:0:2"}},
	} {
		if got := Words(c.s); !slices.Equal(got, c.want) {
			t.Errorf("P7.1: Words(%q): %q, not %q", c.s, got, c.want)
		}
	}
}

// P7.1: decimal, one to seven digits, no 0 ahead of another digit.
func TestNum(t *testing.T) {
	for _, c := range []struct {
		s    string
		want int
		ok   bool
	}{
		{"0", 0, true},
		{"1", 1, true},
		{"9", 9, true},
		{"10", 10, true},
		{"100", 100, true},
		{"1234567", 1234567, true},
		{"9999999", 9999999, true},
		{"10000000", 0, false},
		{"99999999999999999999999", 0, false},
		{"", 0, false},
		{"00", 0, false},
		{"01", 0, false},
		{"0000001", 0, false},
		{"00000001", 0, false},
		{"-1", 0, false},
		{"-0", 0, false},
		{"+1", 0, false},
		{" 1", 0, false},
		{"1 ", 0, false},
		{"1\n", 0, false},
		{"1_0", 0, false},
		{"0x1", 0, false},
		{"1e3", 0, false},
		{"1.", 0, false},
		{"a", 0, false},
		{"1a", 0, false},
		{"a1", 0, false},
		{"/", 0, false},
		{":", 0, false},
		{"1/", 0, false},
		{"1:", 0, false},
		{"\u0663", 0, false},
		{"\uff11", 0, false},
		{"\x00", 0, false},
		{"1\xff", 0, false},
	} {
		if got, ok := Num(c.s); got != c.want || ok != c.ok {
			t.Errorf("P7.1: Num(%q): %d, %v, not %d, %v", c.s, got, ok, c.want, c.ok)
		}
	}
}

// P7.1: of one from 0 to 9999999 that text; else "".
func TestText(t *testing.T) {
	for _, c := range []struct {
		n    int
		want string
	}{
		{0, "0"},
		{7, "7"},
		{10, "10"},
		{1000000, "1000000"},
		{9999999, "9999999"},
		{10000000, ""},
		{-1, ""},
		{math.MaxInt, ""},
		{math.MinInt, ""},
	} {
		if got := Text(c.n); got != c.want {
			t.Errorf("P7.1: Text(%d): %q, not %q", c.n, got, c.want)
		}
	}
}

// P7.1: 1 to MaxName bytes, small letters, digits, the first one a letter.
func TestName(t *testing.T) {
	for _, c := range []struct {
		s    string
		want bool
	}{
		{"a", true},
		{"z", true},
		{"a0", true},
		{"z9", true},
		{"a1b2c3d4", true},
		{"abcdefgh", true},
		{"abcdefghi", false},
		{strings.Repeat("a", 1000), false},
		{"", false},
		{"0", false},
		{"9", false},
		{"0a", false},
		{"A", false},
		{"Z", false},
		{"aB", false},
		{"a b", false},
		{" a", false},
		{"a ", false},
		{"a_", false},
		{"a-b", false},
		{"a#", false},
		{"a:", false},
		{"a/", false},
		{"a\n", false},
		{"a`", false},
		{"a{", false},
		{"`", false},
		{"{", false},
		{"\u00e9", false},
		{"a\u00e9", false},
		{"a\xff", false},
		{"a\x00", false},
	} {
		if got := Name(c.s); got != c.want {
			t.Errorf("P7.1: Name(%q): %v", c.s, got)
		}
	}
}

// P7.3: what Text writes Num reads, and the other way round.
func TestWhatIsWrittenIsRead(t *testing.T) {
	for n := 0; n <= maxNum; n += 1 + n/97 {
		if got, ok := Num(Text(n)); got != n || !ok {
			t.Fatalf("P7.3: Num(Text(%d)): %d, %v", n, got, ok)
		}
	}
	for _, s := range []string{"0", "9", "10", "123", "9999999"} {
		n, _ := Num(s)
		if got := Text(n); got != s {
			t.Errorf("P7.3: Text(Num(%q)): %q", s, got)
		}
	}
}

// P7.3: lines, each ended by 10, are read as they were; so are words with blanks between.
func TestWhatIsPutTogetherIsCut(t *testing.T) {
	for _, l := range [][]string{nil, {""}, {"", ""}, {"a"}, {"a", ""}, {"", "a", "", "b c"}} {
		text := ""
		for _, s := range l {
			text += s + "\n"
		}
		if got := Lines(text); !slices.Equal(got, l) {
			t.Errorf("P7.3: Lines(%q): %q", text, got)
		}
	}
	for _, l := range [][]string{nil, {"a"}, {"a", "b"}, {"task", "a", "10"}} {
		for _, blank := range []string{" ", "  "} {
			if got := Words(strings.Join(l, blank)); !slices.Equal(got, l) {
				t.Errorf("P7.3: Words of %q: %q", l, got)
			}
		}
	}
}

// DOC.md's rule 3: no answer lies on another one.
func TestAnswersAreNew(t *testing.T) {
	for _, call := range []func(string) []string{Lines, Words} {
		one, two := call("a b\nc d\n"), call("a b\nc d\n")
		want := slices.Clone(one)
		clear(two[:cap(two)])
		if !slices.Equal(one, want) {
			t.Errorf("an answer was touched: %q", one)
		}
	}
}
