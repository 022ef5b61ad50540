package base64

import (
	std "encoding/base64"
	"strings"
	"testing"

	"pillarbox/api"
)

// The way of the chapter: this doesn't compile unless the alphabet is a constant text.
const letters string = alphabet

// pairs are texts and what Encode tells of them.
var pairs = []struct{ s, told string }{
	{"", ""},
	{"f", "Zg=="}, // these six: RFC 4648, 10
	{"fo", "Zm8="},
	{"foo", "Zm9v"},
	{"foob", "Zm9vYg=="},
	{"fooba", "Zm9vYmE="},
	{"foobar", "Zm9vYmFy"},
	{"a", "YQ=="}, // the chapter's example
	{"\x14\xfb\x9c\x03\xd9\x7e", "FPucA9l+"},
	{"\x00", "AA=="},
	{"\x00\x00", "AAA="},
	{"\x00\x00\x00", "AAAA"},
	{"\xff", "/w=="},
	{"\xff\xff", "//8="},
	{"\xff\xff\xff", "////"},
	{"\xfb\xef\xbe", "++++"},
	{"\xfb\xff\xbf", "+/+/"},
	{"\xc3\xa4", "w6Q="},
	{"=", "PQ=="},
	{"\r\n", "DQo="},
}

// nothings are texts that Encode tells of none.
var nothings = []string{
	"Y", "YQ", "YQ=", "YWI", "YWJjZ", "YWJjZA", "YWJjZA=", "YWJjZGU", // not filled up
	"=", "==", "===", "====", "Y=", "Y==", "Y===", "Y=Q=", "=YQ=", "==YQ", // `=` where letters must be
	"YQ===", "YQ====", "YWI==", "YWJj=", "YWJj==", "YWJj====", // filled up too far
	"YR==", "Yf==", "YS==", "YWJ=", "YWL=", "YWK=", "YWJjZB==", "YWJjZGV=", // bits left
	"YQ==YQ==", "YQ==YWJj", "YQ==Y", "YWI=YWI=", "YQ==x", // more behind the end
	"YQ==\n", "YQ==\r\n", "YWJj\n", "YWJj\r\n", "\nYWJj", "YW\r\nJj", "Y\nQ==", "YQ=\n=", "YQ\r\n==", "\n", "\r\n\r\n", // line ends
	" YQ==", "YQ== ", "YW Jj", "YWJ ", "YWJ\t", "\tYWJj", "YWJj\x00", "\x00YWJj", "YWJ\x00", "    ",
	"YW-j", "YW_j", "YW,j", "-_-_", "YW*j", "YW.j", // other alphabets
	"\xff\xff\xff\xff", "YWJ\xff", "YWJ\xe2", "\xd9WJj", "\xef\xbc\xa1AAA", "\xc3\xa4\xc3\xa4",
}

// looses are texts and what Loose makes of them.
var looses = []struct{ s, want string }{
	{"", ""},
	{"Y", ""},
	{"YQ", "a"},
	{"YWI", "ab"},
	{"YWJj", "abc"},
	{"YWJjZ", "abc"},
	{"YWJjZA", "abcd"},
	{"YWJjZGU", "abcde"},
	{"YWJjZGVm", "abcdef"},
	{"YR", "a"}, // bits left
	{"Yf", "a"},
	{"YWJ", "ab"},
	{"YWL", "ab"},
	{"YWJj/", "abc"},
	{"=", ""}, // up to the first `=`
	{"=YQ", ""},
	{"=YQ==", ""},
	{"Y=Q=", ""},
	{"YQ=", "a"},
	{"YQ=I", "a"},
	{"YQ==YWJj", "a"},
	{"YQ= =YWJj", "a"},
	{"YWI=YWI=", "ab"},
	{"YWJj=ZGVm", "abc"},
	{"YWJjZ=GVm", "abc"},
	{" Y W\tJ\r\nj ", "abc"}, // others between
	{"Y-W_J,j.", "abc"},
	{"\r\n\r\nYQ", "a"},
	{"Y\n", ""},
	{"Y!Q", "a"},
	{"\x00Y\xffQ\x80", "a"},
	{"\xc3\xa4YQ\xc3\xb6", "a"},
	{"\xd9\xd1", ""}, // letters with the high bit set
	{"!!", ""},
	{"-_-_", ""},
	{"@[`{,-.:", ""}, // beside the letters
	{"+/+/", "\xfb\xff\xbf"},
	{"//", "\xff"},
	{"///", "\xff\xff"},
	{"/////", "\xff\xff\xff"},
}

// longs are texts of many bytes, of each rest by three.
func longs() []string {
	var b strings.Builder
	for i := range 1 << 17 {
		b.WriteByte(byte(i * i >> 3))
	}
	s := b.String()
	return []string{s, s[1:], s[2:], s[:76*3/4], s[:57], s[:58], s[:59]}
}

// decodeWant is what Decode must tell, by the library.
func decodeWant(s string) (string, api.Errno) {
	x, err := std.StdEncoding.Strict().DecodeString(s)
	// The library passes over line ends, which Encode never tells.
	if err != nil || strings.ContainsAny(s, "\r\n") {
		return "", api.ErrForm
	}
	return string(x), api.OK
}

// looseWant is what Loose must tell, by the library.
func looseWant(s string) string {
	s, _, _ = strings.Cut(s, "=")
	var b strings.Builder
	for i := range len(s) {
		c := s[i]
		if c >= 'A' && c <= 'Z' || c >= 'a' && c <= 'z' || c >= '0' && c <= '9' || c == '+' || c == '/' {
			b.WriteByte(c)
		}
	}
	s = b.String()
	if len(s)%4 == 1 {
		s = s[:len(s)-1]
	}
	x, err := std.RawStdEncoding.DecodeString(s)
	if err != nil {
		panic(err)
	}
	return string(x)
}

// holdTold holds that s has just one telling, and that both ways back end at s.
func holdTold(t *testing.T, s string) {
	t.Helper()
	told := Encode(s)
	if want := std.StdEncoding.EncodeToString([]byte(s)); told != want {
		t.Fatalf("Encode(%.20x): %.40q, want %.40q", s, told, want)
	}
	if x, e := Decode(told); x != s || e != api.OK {
		t.Fatalf("Decode(%.40q): %.20x, %d", told, x, e)
	}
	if x := Loose(told); x != s {
		t.Fatalf("Loose(%.40q): %.20x", told, x)
	}
}

// holdRead holds what both ways back make of any text.
func holdRead(t *testing.T, s string) {
	t.Helper()
	want, wantErr := decodeWant(s)
	if x, e := Decode(s); x != want || e != wantErr {
		t.Fatalf("Decode(%.40q): %.20x, %d, want %.20x, %d", s, x, e, want, wantErr)
	}
	if x, want := Loose(s), looseWant(s); x != want {
		t.Fatalf("Loose(%.40q): %.20x, want %.20x", s, x, want)
	}
}

// 3.1: each letter stands for its place in the alphabet.
func TestAlphabet(t *testing.T) {
	if len(letters) != 64 {
		t.Fatalf("%d letters", len(letters))
	}
	for i := range letters {
		want := letters[i : i+1]
		if got := Encode(string([]byte{byte(i << 2)})); got[:1] != want {
			t.Errorf("letter %d: %q, want %q", i, got[:1], want)
		}
		if got := Loose("A" + want + "AA"); got != string([]byte{byte(i >> 4), byte(i << 4), 0}) {
			t.Errorf("letter %q: %x", want, got)
		}
	}
}

// 3.1
func TestEncode(t *testing.T) {
	for _, c := range pairs {
		if got := Encode(c.s); got != c.told {
			t.Errorf("Encode(%x): %q, want %q", c.s, got, c.told)
		}
	}
}

// 3.1: one line, however long it gets.
func TestEncodeOneLine(t *testing.T) {
	for _, s := range longs() {
		told := Encode(s)
		if strings.ContainsAny(told, "\r\n") || len(told) != (len(s)+2)/3*4 {
			t.Errorf("Encode of %d bytes: %d", len(s), len(told))
		}
	}
}

// 3.1
func TestDecode(t *testing.T) {
	for _, c := range pairs {
		if got, e := Decode(c.told); got != c.s || e != api.OK {
			t.Errorf("Decode(%q): %x, %d, want %x", c.told, got, e, c.s)
		}
	}
}

// 3.1: beside the error stands no text (R4).
func TestDecodeNone(t *testing.T) {
	long := strings.Repeat("AAAA", 1000)
	for _, s := range nothings {
		for _, x := range []string{s, "Zm9v" + s, long + s} {
			if got, e := Decode(x); got != "" || e != api.ErrForm {
				t.Errorf("Decode(%.40q): %.20x, %d", x, got, e)
			}
		}
	}
}

// 3.1: the last letter ahead of `=` leaves no bits.
func TestDecodeBitsLeft(t *testing.T) {
	for i := range letters {
		c := letters[i : i+1]
		if _, e := Decode("A" + c + "=="); (e == api.OK) != (i%16 == 0) {
			t.Errorf("Decode(%q): %d", "A"+c+"==", e)
		}
		if _, e := Decode("AA" + c + "="); (e == api.OK) != (i%4 == 0) {
			t.Errorf("Decode(%q): %d", "AA"+c+"=", e)
		}
		if _, e := Decode("AAA" + c); e != api.OK {
			t.Errorf("Decode(%q): %d", "AAA"+c, e)
		}
	}
}

// 3.1
func TestLoose(t *testing.T) {
	for _, c := range looses {
		if got := Loose(c.s); got != c.want {
			t.Errorf("Loose(%q): %x, want %x", c.s, got, c.want)
		}
	}
}

// 3.1: each byte that is no letter is passed over, but `=`, which ends all.
func TestEachByte(t *testing.T) {
	for c := range 256 {
		b := string([]byte{byte(c)})
		for _, s := range []string{b, b + "YWI", "Y" + b + "WI", "YWI" + b, "YWJj" + b, "YWJjZA=" + b, b + b, b + b + b, b + b + b + b} {
			holdRead(t, s)
		}
	}
}

// 3.1: each pair of bytes, at the beginning and at the end of a four.
func TestEachPair(t *testing.T) {
	for i := range 1 << 16 {
		b := string([]byte{byte(i), byte(i >> 8)})
		for _, s := range []string{b, b + "==", b + "AA", "AA" + b, "A" + b + "=", "AAAA" + b + "AA"} {
			holdRead(t, s)
		}
	}
}

// 3.1: each text of up to six of these signs.
func TestEachOfFewSigns(t *testing.T) {
	const signs = "AQ/=\n-"
	from := []string{""}
	for range 6 {
		var next []string
		for _, s := range from {
			for i := range signs {
				next = append(next, s+signs[i:i+1])
			}
		}
		for _, s := range next {
			holdRead(t, s)
		}
		from = next
	}
}

// 3.1, 3.2: each text of one and of two bytes, and those of three with the bounds of the last.
func TestEachShort(t *testing.T) {
	holdTold(t, "")
	for i := range 1 << 8 {
		holdTold(t, string([]byte{byte(i)}))
	}
	for i := range 1 << 16 {
		holdTold(t, string([]byte{byte(i), byte(i >> 8)}))
		for _, c := range []byte{0, 1, 0x3f, 0x40, 0x7f, 0x80, 0xc0, 0xfe, 0xff} {
			holdTold(t, string([]byte{byte(i), byte(i >> 8), c}))
		}
	}
}

// 3.2
func TestLong(t *testing.T) {
	for _, s := range longs() {
		holdTold(t, s)
		holdTold(t, Encode(s))
	}
}

// 3.2: a line end at each place of what Encode told, and one at all of them.
func TestLooseLineEnds(t *testing.T) {
	for _, c := range pairs {
		for _, end := range []string{"\r\n", "\n", "\r", "\r\n\r\n"} {
			for at := range len(c.told) + 1 {
				s := c.told[:at] + end + c.told[at:]
				if got := Loose(s); got != c.s {
					t.Errorf("Loose(%q): %x, want %x", s, got, c.s)
				}
				if got, e := Decode(s); got != "" || e != api.ErrForm {
					t.Errorf("Decode(%q): %x, %d", s, got, e)
				}
			}
			s := end + strings.Join(strings.Split(c.told, ""), end) + end
			if got := Loose(s); got != c.s {
				t.Errorf("Loose(%q): %x, want %x", s, got, c.s)
			}
		}
	}
}

// 3.2: lines of 76, as mail has them, and of lengths that cut fours.
func TestLooseLines(t *testing.T) {
	for _, s := range longs() {
		told := Encode(s)
		for _, width := range []int{1, 3, 75, 76, 1000} {
			var b strings.Builder
			for at := 0; at < len(told); at += width {
				b.WriteString(told[at:min(at+width, len(told))] + "\r\n")
			}
			if Loose(b.String()) != s {
				t.Errorf("Loose of %d bytes in lines of %d", len(s), width)
			}
		}
	}
}
