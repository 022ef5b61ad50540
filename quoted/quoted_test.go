package quoted

import (
	"bytes"
	"encoding/hex"
	"io"
	"mime/quotedprintable"
	"regexp"
	"strings"
	"testing"
)

// encodes are texts and what Encode tells of them.
var encodes = []struct{ s, told string }{
	{"", ""},
	{"a=b", "a=3Db"}, // the chapter's example
	{"=", "=3D"},
	{"==", "=3D=3D"},
	{"=3D", "=3D3D"},
	{"abc XYZ 019", "abc XYZ 019"},
	{"!\"#$%&'()*+,-./:;<>?@[\\]^_`{|}~", "!\"#$%&'()*+,-./:;<>?@[\\]^_`{|}~"},
	{" ", "=20"},
	{"  ", " =20"},
	{"   ", "  =20"},
	{" a", " a"},
	{"a ", "a=20"},
	{"a  ", "a =20"},
	{"a b ", "a b=20"},
	{"a \r\n", "a =0D=0A"}, // only the last byte of all counts, not of a line in s
	{"a \r\nb ", "a =0D=0Ab=20"},
	{" \n ", " =0A=20"},
	{"\t", "=09"},
	{"a\tb", "a=09b"},
	{"a\t", "a=09"},
	{"\r", "=0D"},
	{"\n", "=0A"},
	{"a\r\nb", "a=0D=0Ab"},
	{"a=\r\nb", "a=3D=0D=0Ab"},
	{"\x00\x1f\x7f\x80\xff", "=00=1F=7F=80=FF"},
	{"\xab\xcd\xef", "=AB=CD=EF"},
	{"\xc3\xa4", "=C3=A4"},
	{".", "."},
	{"From me", "From me"},
}

// decodes are texts that Encode tells of none, and what Decode makes of them.
var decodes = []struct{ s, want string }{
	{"=3d", "="}, // either size
	{"=3D", "="},
	{"=c3=A4", "\xc3\xa4"},
	{"=aF=Af", "\xaf\xaf"},
	{"=00=ff=FF", "\x00\xff\xff"},
	{"=41=42", "AB"},
	{"=3D41", "=41"}, // what came out is not read again
	{"=3D=3D41", "==41"},
	{"=3D\n", "=\n"},
	{"=\n", ""},
	{"=\r\n", ""},
	{"a=\nb", "ab"},
	{"a=\r\nb", "ab"},
	{"a=\n", "a"},
	{"a=\r\n", "a"},
	{"=\nb", "b"},
	{"=\n=\n=\r\n=\r\n", ""},
	{"=\n\n", "\n"}, // one line end, not more
	{"=\r\n\r\n", "\r\n"},
	{"=\n\r\n", "\r\n"},
	{"=\r\n\n", "\n"},
	{"=\n41", "41"}, // an `=` is used but once
	{"=\r\n41", "41"},
	{"=4\n1", "=4\n1"},
	{"==\n41", "=41"},
	{"=\r", "=\r"},
	{"a=\rb", "a=\rb"},
	{"=\r\r\n", "=\r\r\n"},
	{"=\r=\n", "=\r"},
	{"=\n\r", "\r"},
	{"= \n", "= \n"},
	{"= \r\n", "= \r\n"},
	{"=\t\n", "=\t\n"},
	{"=\x0b", "=\x0b"},
	{"=", "="},
	{"a=", "a="},
	{"==", "=="},
	{"===", "==="},
	{"==41", "=A"},
	{"===41", "==A"},
	{"=4", "=4"},
	{"=4=41", "=4A"},
	{"=4=", "=4="},
	{"a=4", "a=4"},
	{"=4g", "=4g"},
	{"=g4", "=g4"},
	{"=gg", "=gg"},
	{"=4G", "=4G"},
	{"=G4", "=G4"},
	{"= 41", "= 41"},
	{"=4 1", "=4 1"},
	{"=-1", "=-1"},
	{"=+1", "=+1"},
	{"=0x", "=0x"},
	{"=x41", "=x41"},
	{"=:0", "=:0"}, // beside the digits
	{"=/0", "=/0"},
	{"=@0", "=@0"},
	{"=0@", "=0@"},
	{"=0`", "=0`"},
	{"=\xc3\xa4", "=\xc3\xa4"},
	{"=\xb4\xb1", "=\xb4\xb1"},
	{"=\x00\x00", "=\x00\x00"},
	{"=4\x00", "=4\x00"},
	{"=00A", "\x00A"},
	{"=410", "A0"},
	{"a b \t", "a b \t"}, // all else, blanks at ends of lines too
	{"a \r\nb\t\n", "a \r\nb\t\n"},
	{"\r\n\r\n", "\r\n\r\n"},
	{"\n", "\n"},
	{"_", "_"},
	{"\x00\x7f\x80\xff", "\x00\x7f\x80\xff"},
	{"\xc3\xa4", "\xc3\xa4"},
	{"\xc3", "\xc3"},
}

var escape = regexp.MustCompile(`=(?:[0-9A-Fa-f]{2}|\r?\n)`)

// decodeWant is what Decode must tell, by the library's patterns.
func decodeWant(s string) string {
	return string(escape.ReplaceAllFunc([]byte(s), func(found []byte) []byte {
		told, _ := hex.DecodeString(string(found[1:]))
		return told
	}))
}

// encodeWant is what Encode must tell: pieces laid into lines, and those joined.
func encodeWant(s string) string {
	lines := []string{""}
	for i := range len(s) {
		piece := s[i : i+1]
		if s[i] < 32 || s[i] > 126 || s[i] == '=' || s[i] == ' ' && i == len(s)-1 {
			piece = "=" + strings.ToUpper(hex.EncodeToString([]byte(piece)))
		}
		if len(lines[len(lines)-1]+piece) > 75 {
			lines = append(lines, "")
		}
		lines[len(lines)-1] += piece
	}
	return strings.Join(lines, "=\r\n")
}

// holdDecode holds what Decode makes of any text.
func holdDecode(t *testing.T, s string) {
	t.Helper()
	if got, want := Decode(s), decodeWant(s); got != want {
		t.Fatalf("Decode(%.80q): %.80q, want %.80q", s, got, want)
	}
}

// holdEncode holds what Encode tells of any text, the lengths of its lines, and the ways back.
func holdEncode(t *testing.T, s string) {
	t.Helper()
	told := Encode(s)
	if want := encodeWant(s); told != want {
		t.Fatalf("Encode(%.200q): %.200q, want %.200q", s, told, want)
	}
	for _, line := range strings.Split(told, "\r\n") {
		if len(line) > 76 {
			t.Fatalf("Encode(%.200q): a line of %d", s, len(line))
		}
	}
	if got := Decode(told); got != s {
		t.Fatalf("Decode(%.200q): %.200q, want %.200q", told, got, s)
	}
	read, err := io.ReadAll(quotedprintable.NewReader(strings.NewReader(told)))
	if err != nil || string(read) != s {
		t.Fatalf("the library reads %.200q as %.200q, %v", told, read, err)
	}
}

// 4.1
func TestDecode(t *testing.T) {
	for _, c := range decodes {
		if got := Decode(c.s); got != c.want {
			t.Errorf("Decode(%q): %q, want %q", c.s, got, c.want)
		}
		if got := Decode("x " + c.s); got != "x "+c.want {
			t.Errorf("Decode(%q): %q", "x "+c.s, got)
		}
		holdDecode(t, c.s)
	}
	for _, c := range encodes {
		if got := Decode(c.told); got != c.s {
			t.Errorf("Decode(%q): %q, want %q", c.told, got, c.s)
		}
	}
}

// 4.1: each pair of bytes behind `=`, and each cut short by the end.
func TestDecodeEachPair(t *testing.T) {
	holdDecode(t, "=")
	for i := range 1 << 8 {
		holdDecode(t, string([]byte{byte(i)}))
		holdDecode(t, string([]byte{'=', byte(i)}))
	}
	for i := range 1 << 16 {
		pair := string([]byte{byte(i >> 8), byte(i)})
		for _, s := range []string{pair, "=" + pair, "==" + pair, "=" + pair + "4", "=" + pair + "\n", "=" + pair + "=41"} {
			holdDecode(t, s)
		}
	}
}

// 4.1: each text of up to seven of these signs.
func TestDecodeEachOfFewSigns(t *testing.T) {
	const signs = "=\r\n4fG"
	from := []string{""}
	for range 7 {
		var next []string
		for _, s := range from {
			for i := range signs {
				next = append(next, s+signs[i:i+1])
			}
		}
		for _, s := range next {
			holdDecode(t, s)
		}
		from = next
	}
}

// 4.2
func TestEncode(t *testing.T) {
	for _, c := range encodes {
		if got := Encode(c.s); got != c.told {
			t.Errorf("Encode(%q): %q, want %q", c.s, got, c.told)
		}
		holdEncode(t, c.s)
	}
}

// 4.2, 4.3: each text of up to two bytes; the last byte is told otherwise than those ahead.
func TestEncodeEachShort(t *testing.T) {
	holdEncode(t, "")
	for i := range 1 << 8 {
		holdEncode(t, string([]byte{byte(i)}))
		for j := range 1 << 8 {
			holdEncode(t, string([]byte{byte(i), byte(j)}))
		}
	}
}

// 4.2: a line holds 75 bytes, and a piece isn't torn.
func TestEncodeLines(t *testing.T) {
	x := func(n int) string { return strings.Repeat("x", n) }
	for _, c := range []struct{ s, told string }{
		{x(74), x(74)},
		{x(75), x(75)},
		{x(76), x(75) + "=\r\nx"},
		{x(77), x(75) + "=\r\nxx"},
		{x(150), x(75) + "=\r\n" + x(75)},
		{x(151), x(75) + "=\r\n" + x(75) + "=\r\nx"},
		{x(72) + "=", x(72) + "=3D"},
		{x(73) + "=", x(73) + "=\r\n=3D"},
		{x(74) + "=", x(74) + "=\r\n=3D"},
		{x(75) + "=", x(75) + "=\r\n=3D"},
		{x(72) + "=y", x(72) + "=3D=\r\ny"},
		{x(73) + "=y", x(73) + "=\r\n=3Dy"},
		{strings.Repeat("=", 25), strings.Repeat("=3D", 25)},
		{strings.Repeat("=", 26), strings.Repeat("=3D", 25) + "=\r\n=3D"},
		{"a" + strings.Repeat("=", 25), "a" + strings.Repeat("=3D", 24) + "=\r\n=3D"},
		{x(74) + " y", x(74) + " =\r\ny"}, // a blank ends a line as it is
		{x(75) + " y", x(75) + "=\r\n y"},
		{x(72) + " ", x(72) + "=20"}, // the last of s takes three bytes
		{x(73) + " ", x(73) + "=\r\n=20"},
		{x(74) + " ", x(74) + "=\r\n=20"},
		{x(75) + " ", x(75) + "=\r\n=20"},
		{x(40) + "\r\n" + x(40), x(40) + "=0D=0A" + x(29) + "=\r\n" + x(11)}, // a line end of s ends no line
	} {
		if got := Encode(c.s); got != c.told {
			t.Errorf("Encode(%q): %q, want %q", c.s, got, c.told)
		}
		holdEncode(t, c.s)
	}
}

// 4.2, 4.3: each kind of piece at each place of a line.
func TestEncodeEachPlace(t *testing.T) {
	for _, fill := range []string{"x", " ", "="} {
		for n := range 160 {
			s := strings.Repeat(fill, n)
			for _, end := range []string{"", "y", " ", " y", "=", "=y", "\r\n", "\xc3\xa4", " =", "= "} {
				holdEncode(t, s+end)
			}
		}
	}
}

// 4.2, 4.3: texts of many lines, also told twice.
func TestEncodeLong(t *testing.T) {
	var b bytes.Buffer
	for i := range 1 << 17 {
		b.WriteByte(byte(i * i >> 3))
	}
	s := b.String()
	holdEncode(t, s)
	holdEncode(t, Encode(s))
	holdEncode(t, strings.Repeat(" ", 1<<12))
	holdEncode(t, strings.Repeat("plain words, and more of them. ", 1<<9))
}

// 4.1: texts of many bytes of each kind.
func TestDecodeLong(t *testing.T) {
	for _, piece := range []string{"=", "=\n", "=\r\n", "=\r", "=4", "=41", "=4g", "=3D=\r", "x", "\xff", "x y=\r\n=\n=e4"} {
		holdDecode(t, strings.Repeat(piece, 1<<14))
	}
}
