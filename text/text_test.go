package text

import (
	"math"
	"runtime"
	"strconv"
	"strings"
	"testing"
)

// everyByte is all 256 bytes, rising.
func everyByte() string {
	var b strings.Builder
	for c := range 256 {
		b.WriteByte(byte(c))
	}
	return b.String()
}

// 1.1: A to Z alone are turned, whatever the other bytes are.
func TestFoldEachByte(t *testing.T) {
	for c := range 256 {
		want := string([]byte{byte(c)})
		if c >= 65 && c <= 90 {
			want = string([]byte{byte(c + 32)})
		}
		if got := Fold(string([]byte{byte(c)})); got != want {
			t.Errorf("Fold of byte %d: %q, want %q", c, got, want)
		}
	}
}

// 1.1
func TestFold(t *testing.T) {
	for _, c := range []struct{ s, want string }{
		{"", ""},
		{"Hello, World 42", "hello, world 42"},
		{"AZaz", "azaz"},
		{"@[`{", "@[`{"},
		{"\xc3\x84\xc3\x96", "\xc3\x84\xc3\x96"},         // letters beyond A to Z
		{"\xe2\x84\xaa\xc4\xb0", "\xe2\x84\xaa\xc4\xb0"}, // whose small letters are ASCII in Unicode
		{"A\xffB\x80C\x00D", "a\xffb\x80c\x00d"},         // not UTF-8
	} {
		if got := Fold(c.s); got != c.want {
			t.Errorf("Fold(%q): %q, want %q", c.s, got, c.want)
		}
	}
}

// 1.1
func TestDigits(t *testing.T) {
	for _, c := range []struct {
		n    int
		want string
	}{
		{0, "0"},
		{1, "1"},
		{9, "9"},
		{10, "10"},
		{1000, "1000"},
		{4294967295, "4294967295"},
		{4294967296, "4294967296"},
		{math.MaxInt64, "9223372036854775807"},
		{-1, "0"},
		{-10, "0"},
		{math.MinInt64, "0"},
	} {
		if got := Digits(c.n); got != c.want {
			t.Errorf("Digits(%d): %q, want %q", c.n, got, c.want)
		}
	}
}

// 1.1
func TestNumber(t *testing.T) {
	for _, c := range []struct {
		s    string
		want int
	}{
		{"0", 0},
		{"1", 1},
		{"9", 9},
		{"10", 10},
		{"1234567890", 1234567890},
		{"999999999", 999999999},
		{"1000000000", 1000000000},
		{"4294967294", 4294967294},
		{"4294967295", 4294967295},
	} {
		if got, ok := Number(c.s); got != c.want || !ok {
			t.Errorf("Number(%q): %d, %v, want %d", c.s, got, ok, c.want)
		}
	}
}

// 1.1: beside a false stands 0 (R4).
func TestNumberFalse(t *testing.T) {
	for _, s := range []string{
		"",
		"00", "01", "007", "0000000000", "0000000001",
		"4294967296", "4294967300", "9999999999",
		"10000000000", "42949672950", "18446744073709551616", "18446744073709551617",
		"-1", "-0", "+1", "1.0", "1e3", "0x1", "1_000",
		" 1", "1 ", "1\n", "1\x00", "\x001",
		"a", "1a", "a1", "12a45", "/", ":", "1/", "1:",
		"\xd9\xa1",     // a digit one that is not ASCII
		"\xef\xbc\x91", // a wide digit one
		"\xb1",         // a digit one with the high bit set
		strings.Repeat("1", 100000),
		strings.Repeat("0", 100000),
	} {
		if got, ok := Number(s); got != 0 || ok {
			t.Errorf("Number(%.20q): %d, %v, want 0, false", s, got, ok)
		}
	}
}

// 1.1: of one byte, the ten digits tell a number and nothing else does.
func TestNumberEachByte(t *testing.T) {
	for c := range 256 {
		n, ok := Number(string([]byte{byte(c)}))
		if c >= 48 && c <= 57 {
			if n != c-48 || !ok {
				t.Errorf("Number of byte %d: %d, %v", c, n, ok)
			}
		} else if n != 0 || ok {
			t.Errorf("Number of byte %d: %d, %v", c, n, ok)
		}
	}
}

// 1.1
func TestIn(t *testing.T) {
	for _, c := range []struct {
		s, sub string
		want   bool
	}{
		{"", "", true},
		{"abc", "", true},
		{"", "a", false},
		{"abc", "abc", true},
		{"abc", "abcd", false},
		{"abc", "ab", true},
		{"abc", "bc", true},
		{"abc", "b", true},
		{"abc", "ac", false},
		{"Hello World", "LO wO", true},
		{"hello", "HELLO", true},
		{"HELLO", "hello", true},
		{"aab", "AB", true},
		{"[", "{", false},
		{"@", "`", false},
		{"\xc3\x84", "\xc3\xa4", false},
		{"\xc3\x84", "\x84", true},
		{"\xe2\x84\xaa", "k", false},
		{"\xff", "\xef\xbf\xbd", false},
		{"a\x00B", "\x00b", true},
	} {
		if got := In(c.s, c.sub); got != c.want {
			t.Errorf("In(%q, %q): %v, want %v", c.s, c.sub, got, c.want)
		}
	}
}

// 1.2: each byte alone, and ahead of, between and behind others.
func TestAtomEachByte(t *testing.T) {
	for c := range 256 {
		s := string([]byte{byte(c)})
		want := c >= 33 && c <= 126 && !strings.Contains("(){}%*\"\\]", s)
		for _, a := range []string{s, s + "ab", "a" + s + "b", "ab" + s} {
			if got := Atom(a); got != want {
				t.Errorf("Atom(%q): %v, want %v", a, got, want)
			}
		}
	}
}

// 1.2
func TestAtom(t *testing.T) {
	for _, c := range []struct {
		s    string
		want bool
	}{
		{"", false},
		{"INBOX", true},
		{"a.b-c+[x", true},
		{"!", true},
		{"~", true},
		{"a b", false},
		{"a]", false},
		{"\r\n", false},
		{"\xc3\x84", false},
		{strings.Repeat("a", 100000), true},
		{strings.Repeat("a", 100000) + " ", false},
	} {
		if got := Atom(c.s); got != c.want {
			t.Errorf("Atom(%.20q): %v, want %v", c.s, got, c.want)
		}
	}
}

// 1.2: bytes from 32 to 126 stand in quotes, the others make a literal.
func TestStringEachByte(t *testing.T) {
	for c := range 256 {
		s := string([]byte{byte(c)})
		want := "{1}\r\n" + s
		if c == 34 || c == 92 {
			want = "\"\\" + s + "\""
		} else if c >= 32 && c <= 126 {
			want = "\"" + s + "\""
		}
		if got := String(s); got != want {
			t.Errorf("String(%q): %q, want %q", s, got, want)
		}
	}
}

// 1.2: the bound of 200 is of the bytes of s, not of what is told.
func TestString(t *testing.T) {
	r := strings.Repeat
	for _, c := range []struct{ s, want string }{
		{"", "\"\""},
		{"hello", "\"hello\""},
		{"a\"b", "\"a\\\"b\""},
		{"\\\"", "\"\\\\\\\"\""},
		{"two words (and) {3}", "\"two words (and) {3}\""},
		{r("x", 199), "\"" + r("x", 199) + "\""},
		{r("x", 200), "\"" + r("x", 200) + "\""},
		{r("x", 201), "{201}\r\n" + r("x", 201)},
		{r("\\", 200), "\"" + r("\\\\", 200) + "\""},
		{r("\"", 201), "{201}\r\n" + r("\"", 201)},
		{r("x", 199) + "\n", "{200}\r\n" + r("x", 199) + "\n"},
		{"\n" + r("x", 199), "{200}\r\n\n" + r("x", 199)},
		{"a\"b\\c\r\n", "{7}\r\na\"b\\c\r\n"},
		{"\xc3\x84", "{2}\r\n\xc3\x84"},
		{r("\xff", 100000), "{100000}\r\n" + r("\xff", 100000)},
	} {
		if got := String(c.s); got != c.want {
			t.Errorf("String(%.20q): %.30q, want %.30q", c.s, got, c.want)
		}
	}
}

// 1.3: at the edges, and at both sides of each power of two and of ten.
func TestNumberOfDigits(t *testing.T) {
	l := []int{0, 1, math.MaxInt64}
	for i, p := 0, 1; i <= 62; i, p = i+1, p*2 {
		l = append(l, p-1, p, p+1)
	}
	for i, p := 0, 1; i <= 18; i, p = i+1, p*10 {
		l = append(l, p-1, p, p+1)
	}
	for _, n := range l {
		got, ok := Number(Digits(n))
		if n <= 4294967295 {
			if got != n || !ok {
				t.Errorf("Number of Digits(%d): %d, %v", n, got, ok)
			}
		} else if got != 0 || ok {
			t.Errorf("Number of Digits(%d): %d, %v, want 0, false", n, got, ok)
		}
	}
	for _, n := range []int{-1, -4294967295, math.MinInt64} {
		if got, ok := Number(Digits(n)); got != 0 || !ok {
			t.Errorf("Number of Digits(%d): %d, %v, want 0, true", n, got, ok)
		}
	}
	for n := range 100000 {
		if got, ok := Number(Digits(n)); got != n || !ok {
			t.Fatalf("Number of Digits(%d): %d, %v", n, got, ok)
		}
	}
}

// 1.3: what Number takes, Digits tells as it was.
func TestDigitsOfNumber(t *testing.T) {
	for i := range 20000 {
		s := strconv.Itoa(i)
		for _, s := range []string{s, "0" + s, s + "0", s + "00000"} {
			if n, ok := Number(s); ok && Digits(n) != s {
				t.Fatalf("Digits of Number(%q): %q", s, Digits(n))
			}
		}
	}
}

// 1.3
func TestFoldTwice(t *testing.T) {
	for _, s := range []string{"", "ABC", "aBc", everyByte(), "\xc3\x84Z\xc4\xb0"} {
		once := Fold(s)
		if got := Fold(once); got != once {
			t.Errorf("Fold twice of %q: %q, once %q", s, got, once)
		}
	}
}

// The way of Fold: its bytes are made once, as many as there are.
func TestFoldMakesOnce(t *testing.T) {
	for _, n := range []int{1, 100, 4096, 1 << 20} {
		s := strings.Repeat("A", n)
		if got := testing.AllocsPerRun(10, func() { Fold(s) }); got > 1 {
			t.Errorf("Fold of %d bytes makes memory %v times", n, got)
		}
	}
}

// The way of Fold: a rounding by the runtime is all that it may make too much.
func TestFoldMakesNoMore(t *testing.T) {
	s := strings.Repeat("A", 1<<20)
	var before, after runtime.MemStats
	runtime.ReadMemStats(&before)
	Fold(s)
	runtime.ReadMemStats(&after)
	if got := after.TotalAlloc - before.TotalAlloc; got > 5<<18 {
		t.Errorf("Fold of %d bytes makes %d", len(s), got)
	}
}
