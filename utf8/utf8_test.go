package utf8

import (
	"math"
	"strings"
	"testing"
	std "unicode/utf8"
	"unsafe"
)

// edges are both sides of each bound of 2.1, and what lies far off.
var edges = []int{
	0, 1, 0x61, 0x7e, 0x7f, 0x80, 0x81, 0xe4, 0x7fe, 0x7ff, 0x800, 0x801, 0xfff, 0x1000,
	0xd7fe, 0xd7ff, 0xe000, 0xe001, 0xfffd, 0xfffe, 0xffff, 0x10000, 0x10001, 0x1f600,
	0xfffff, 0x100000, 0x10fffe, 0x10ffff,
}

// nothings are texts with no code point's bytes at their beginning.
var nothings = []string{
	"",
	"\x80", "\xbf", "\x80\x80", "\xbfa", // not first
	"\xc2", "\xdf", "\xe0", "\xef", "\xf0", "\xf4", // alone
	"\xc2a", "\xc2\x7f", "\xc2\xc0", "\xc2\xc3\xa4", "\xdf\xff",
	"\xe2\x82", "\xe2\x82a", "\xe2a\xac", "\xe2\x82\xc0", "\xe2\xc0\xac", "\xe2\x7f\xac", "\xe2\x82\x7f",
	"\xf0\x9f", "\xf0\x9f\x98", "\xf0\x9f\x98a", "\xf0\x9fa\x80", "\xf0a\x98\x80", "\xf0\x9f\x98\xc0", "\xf0\x9f\x98\x7f",
	"\xc0\x80", "\xc0\xaf", "\xc1\xbf", // longer than they must be
	"\xe0\x80\x80", "\xe0\x80\xaf", "\xe0\x9f\xbf",
	"\xf0\x80\x80\x80", "\xf0\x80\x80\xaf", "\xf0\x82\x82\xac", "\xf0\x8f\xbf\xbf",
	"\xed\xa0\x80", "\xed\xaf\xbf", "\xed\xb0\x80", "\xed\xbf\xbf", // halves of pairs
	"\xed\xa0\xbd\xed\xb8\x80",                                                     // both halves of one
	"\xf4\x90\x80\x80", "\xf4\xbf\xbf\xbf", "\xf5\x80\x80\x80", "\xf7\xbf\xbf\xbf", // too high
	"\xf8\x88\x80\x80\x80", "\xfb\xbf\xbf\xbf\xbf", "\xfc\x84\x80\x80\x80\x80", "\xfd\xbf\xbf\xbf\xbf\xbf",
	"\xfe", "\xff", "\xfe\x80\x80\x80\x80\x80\x80", "\xff\x80\x80\x80\x80\x80\x80\x80",
}

// texts are Valid ones.
var texts = []string{
	"", "a", "hello", "\x00", "\x00\x7f", "a\xc3\xa4\xe2\x82\xac\xf0\x9f\x98\x80b",
	"\xef\xbf\xbd", "\xef\xbb\xbfa", "\xef\xbf\xbe\xef\xbf\xbf", "a\xcc\x88", "\xf4\x8f\xbf\xbf\xee\x80\x80\xed\x9f\xbf",
	strings.Repeat("\xc3\xa4", 1000), strings.Repeat("\xf0\x9f\x98\x80a", 1000),
}

func isPoint(r int) bool {
	return r >= 0 && r <= 0x10ffff && (r < 0xd800 || r > 0xdfff)
}

// want is what Get must tell of the beginning of s, by the library.
func want(s string) (r, next int) {
	x, n := std.DecodeRuneInString(s)
	if x == std.RuneError && n <= 1 {
		return -1, 0
	}
	return int(x), n
}

func holdAgainstLibrary(t *testing.T, s string) {
	r, next := Get(s, 0)
	if x, to := want(s); r != x || next != to {
		t.Fatalf("Get(%x, 0): %#x, %d, want %#x, %d", s, r, next, x, to)
	}
	if got := Valid(s); got != std.ValidString(s) {
		t.Fatalf("Valid(%x): %v", s, got)
	}
}

// 2.1
func TestPut(t *testing.T) {
	for _, c := range []struct {
		r    int
		want string
	}{
		{0, "\x00"},
		{0x61, "a"},
		{0x7f, "\x7f"},
		{0x80, "\xc2\x80"},
		{0xe4, "\xc3\xa4"},
		{0x7ff, "\xdf\xbf"},
		{0x800, "\xe0\xa0\x80"},
		{0x20ac, "\xe2\x82\xac"},
		{0xd7ff, "\xed\x9f\xbf"},
		{0xe000, "\xee\x80\x80"},
		{0xfffd, "\xef\xbf\xbd"},
		{0xffff, "\xef\xbf\xbf"},
		{0x10000, "\xf0\x90\x80\x80"},
		{0x1f600, "\xf0\x9f\x98\x80"},
		{0x10ffff, "\xf4\x8f\xbf\xbf"},
	} {
		if got := Put(c.r); got != c.want {
			t.Errorf("Put(%#x): %x, want %x", c.r, got, c.want)
		}
	}
}

// 2.1: of what is no code point, no bytes.
func TestPutNone(t *testing.T) {
	for r := 0xd800; r <= 0xdfff; r++ {
		if got := Put(r); got != "" {
			t.Errorf("Put(%#x): %x", r, got)
		}
	}
	for _, r := range []int{
		-1, -2, -0x61, -0x80, -0x10ffff, math.MinInt32, math.MinInt64, math.MinInt64 + 0x61,
		0x110000, 0x110001, 0x1fffff, 0x200000, math.MaxInt32, 1 << 32, 1<<32 + 0x61, 1<<33 + 0xe4, math.MaxInt64,
	} {
		if got := Put(r); got != "" {
			t.Errorf("Put(%#x): %x", r, got)
		}
	}
}

// 2.1, 2.3: each code point there is, wherever its bytes stand.
func TestEachPoint(t *testing.T) {
	for r := -0x100; r <= 0x110100; r++ {
		s := Put(r)
		if !isPoint(r) {
			if s != "" {
				t.Fatalf("Put(%#x): %x", r, s)
			}
			continue
		}
		if s != string(rune(r)) {
			t.Fatalf("Put(%#x): %x", r, s)
		}
		if x, next := Get(s, 0); x != r || next != len(s) {
			t.Fatalf("Get of Put(%#x): %#x, %d", r, x, next)
		}
		if x, next := Get("\xff"+s+"\x80", 1); x != r || next != 1+len(s) {
			t.Fatalf("Get of Put(%#x) within others: %#x, %d", r, x, next)
		}
	}
}

// 2.1: a place within a code point's bytes is the beginning of none, and bytes that lack make none.
func TestGetInside(t *testing.T) {
	for _, r := range edges {
		s := Put(r)
		for at := 1; at < len(s); at++ {
			if x, next := Get(s, at); x != -1 || next != at {
				t.Errorf("Get(%x, %d): %#x, %d", s, at, x, next)
			}
			if x, next := Get(s[:at], 0); x != -1 || next != 0 {
				t.Errorf("Get(%x, 0): %#x, %d", s[:at], x, next)
			}
			if x, next := Get(s[:at]+"a", 0); x != -1 || next != 0 {
				t.Errorf("Get(%x, 0): %#x, %d", s[:at]+"a", x, next)
			}
		}
	}
}

// 2.1: one behind the other, by their places.
func TestGetNext(t *testing.T) {
	s, at := "", 0
	for _, r := range edges {
		s += Put(r)
	}
	for _, r := range edges {
		x, next := Get(s, at)
		if x != r || next != at+len(Put(r)) {
			t.Fatalf("Get at %d: %#x, %d, want %#x", at, x, next, r)
		}
		at = next
	}
	if x, next := Get(s, at); x != -1 || next != at {
		t.Errorf("Get at the end: %#x, %d", x, next)
	}
}

// 2.1
func TestGetNone(t *testing.T) {
	for _, s := range nothings {
		for _, ahead := range []string{"", "a", "\xc3\xa4", "\xff"} {
			at := len(ahead)
			if r, next := Get(ahead+s, at); r != -1 || next != at {
				t.Errorf("Get(%x, %d): %#x, %d, want -1, %d", ahead+s, at, r, next, at)
			}
		}
	}
}

// 2.1, R3: a place that there is not never counts from the end.
func TestGetPlaces(t *testing.T) {
	for _, s := range []string{"", "a", "ab", "\xc3\xa4", "\xf0\x9f\x98\x80", "\xff"} {
		n := len(s)
		for _, at := range []int{
			n, n + 1, n + 9, 1 << 31, 1 << 32, math.MaxInt64 - 1, math.MaxInt64,
			-1, -2, -n - 1, -1 << 32, math.MinInt64, math.MinInt64 + 1,
		} {
			if r, next := Get(s, at); r != -1 || next != at {
				t.Errorf("Get(%x, %d): %#x, %d", s, at, r, next)
			}
		}
	}
}

// 2.1, 2.2: each text of one, two and three bytes.
func TestShortTexts(t *testing.T) {
	var b [3]byte
	for n := 1; n <= 3; n++ {
		for i := range 1 << (8 * n) {
			b[0], b[1], b[2] = byte(i), byte(i>>8), byte(i>>16)
			holdAgainstLibrary(t, string(b[:n]))
		}
	}
}

// 2.1, 2.2: texts of four bytes, with each first and second byte, and the bounds of the others.
func TestTextsOfFour(t *testing.T) {
	rest := []byte{0, 'a', 0x7f, 0x80, 0x81, 0xbe, 0xbf, 0xc0, 0xc2, 0xff}
	for i := range 1 << 16 {
		for _, c := range rest {
			for _, d := range rest {
				holdAgainstLibrary(t, string([]byte{byte(i), byte(i >> 8), c, d}))
			}
		}
	}
}

// 2.2
func TestValid(t *testing.T) {
	for _, s := range texts {
		if !Valid(s) {
			t.Errorf("Valid(%.20x): false", s)
		}
	}
	for _, s := range nothings {
		if Valid(s) != (s == "") {
			t.Errorf("Valid(%x): %v", s, Valid(s))
		}
	}
}

// 2.2: what is wrong is wrong wherever it stands.
func TestValidFalse(t *testing.T) {
	for _, bad := range nothings[1:] {
		for _, s := range texts {
			for _, x := range []string{bad + s, s + bad, s + bad + s} {
				if Valid(x) {
					t.Errorf("Valid(%.40x): true", x)
				}
			}
		}
	}
	for _, r := range edges {
		s := Put(r)
		for i := 1; i < len(s); i++ {
			if Valid(s[:i]) || Valid(s[i:]) {
				t.Errorf("a piece of %x is Valid", s)
			}
		}
	}
}

// 2.2
func TestCut(t *testing.T) {
	for _, c := range []struct {
		s    string
		n    int
		want string
	}{
		{"", 0, ""},
		{"", 5, ""},
		{"", -5, ""},
		{"abc", 0, ""},
		{"abc", 1, "a"},
		{"abc", 2, "ab"},
		{"abc", 3, "abc"},
		{"abc", 4, "abc"},
		{"abc", math.MaxInt64, "abc"},
		{"abc", -1, ""},
		{"abc", -3, ""},
		{"abc", math.MinInt64, ""},
		{"a\xc3\xa4\xe2\x82\xac\xf0\x9f\x98\x80b", 1, "a"},
		{"a\xc3\xa4\xe2\x82\xac\xf0\x9f\x98\x80b", 2, "a\xc3\xa4"},
		{"a\xc3\xa4\xe2\x82\xac\xf0\x9f\x98\x80b", 3, "a\xc3\xa4\xe2\x82\xac"},
		{"a\xc3\xa4\xe2\x82\xac\xf0\x9f\x98\x80b", 4, "a\xc3\xa4\xe2\x82\xac\xf0\x9f\x98\x80"},
		{"a\xc3\xa4\xe2\x82\xac\xf0\x9f\x98\x80b", 5, "a\xc3\xa4\xe2\x82\xac\xf0\x9f\x98\x80b"},
		{"a\xcc\x88", 1, "a"}, // two code points that are shown as one
		{"\x00\x00", 1, "\x00"},
		{"\xef\xbf\xbda", 1, "\xef\xbf\xbd"},
	} {
		if got := Cut(c.s, c.n); got != c.want {
			t.Errorf("Cut(%x, %d): %x, want %x", c.s, c.n, got, c.want)
		}
	}
}

// 2.2: behind what is no code point nothing is looked at.
func TestCutEnds(t *testing.T) {
	for _, bad := range nothings[1:] {
		for _, n := range []int{3, 4, 5, 100, math.MaxInt64} {
			if got := Cut("a\xc3\xa4b"+bad+"cde", n); got != "a\xc3\xa4b" {
				t.Errorf("Cut ahead of %x, %d: %x", bad, n, got)
			}
			if got := Cut(bad+"cde", n); got != "" {
				t.Errorf("Cut of %x, %d: %x", bad+"cde", n, got)
			}
		}
		if got := Cut("a\xc3\xa4b"+bad, 2); got != "a\xc3\xa4" {
			t.Errorf("Cut ahead of %x, 2: %x", bad, got)
		}
	}
}

// 2.2, 2.3: each cut of a Valid text is Valid, the text's beginning, and of as many as it may be.
func TestCutValid(t *testing.T) {
	for _, s := range texts {
		all := std.RuneCountInString(s)
		for n := -2; n <= all+2; n++ {
			got := Cut(s, n)
			if !Valid(got) || !strings.HasPrefix(s, got) {
				t.Fatalf("Cut(%.20x, %d): %.20x", s, n, got)
			}
			if points := std.RuneCountInString(got); points != min(max(n, 0), all) {
				t.Fatalf("Cut(%.20x, %d): %d code points", s, n, points)
			}
		}
	}
}

// R3: what is told shares no memory with what was handed in.
func TestCutIsNew(t *testing.T) {
	for _, s := range []string{"a", "abc", "\xc3\xa4\xff"} {
		for n := 1; n <= 4; n++ {
			if got := Cut(s, n); unsafe.StringData(got) == unsafe.StringData(s) {
				t.Errorf("Cut(%x, %d) shares its memory", s, n)
			}
		}
	}
}
