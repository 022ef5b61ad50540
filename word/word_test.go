package word

import (
	"encoding/base64"
	"encoding/hex"
	"fmt"
	"go/ast"
	"go/parser"
	"go/token"
	"math/rand"
	"mime"
	"regexp"
	"strings"
	"testing"
	"unicode/utf8"
	"unsafe"
)

// shown is the beginning of a text, for what a test says.
func shown(s string) string {
	return fmt.Sprintf("%.200q", s)
}

var (
	form    = regexp.MustCompile(`^=\?([!->@-~]+)\?([BbQq])\?([!->@-~]*)\?=`)
	strange = regexp.MustCompile(`=.*|[^A-Za-z0-9+/]`)
	hexes   = regexp.MustCompile(`=[0-9A-Fa-f]{2}`)
	blank   = regexp.MustCompile(`^[ \t]$`)
)

// octetsOf is the bytes that the text of a word tells.
func octetsOf(way, told string) string {
	if strings.EqualFold(way, "Q") {
		return hexes.ReplaceAllStringFunc(strings.ReplaceAll(told, "_", " "), func(s string) string {
			b, _ := hex.DecodeString(s[1:])
			return string(b)
		})
	}
	letters := strange.ReplaceAllString(told, "")
	if len(letters)%4 == 1 {
		letters = letters[:len(letters)-1]
	}
	b, _ := base64.RawStdEncoding.DecodeString(letters)
	return string(b)
}

// latin is the text whose code points are the bytes of s.
func latin(s string) string {
	var points []rune
	for _, c := range []byte(s) {
		points = append(points, rune(c))
	}
	return string(points)
}

// wordAt is what the word at the beginning of s says, and how long it is; 0 where none stands there.
func wordAt(s string) (string, int) {
	parts := form.FindStringSubmatch(s)
	if parts == nil {
		return "", 0
	}
	says := octetsOf(parts[2], parts[3])
	switch strings.ToLower(parts[1]) {
	case "utf-8", "us-ascii":
		if utf8.ValidString(says) {
			return says, len(parts[0])
		}
	case "iso-8859-1":
		return latin(says), len(parts[0])
	}
	return "", 0
}

// wanted is what Decode must tell: it cuts s into words and single bytes, and takes away what stands between words after.
func wanted(s string) string {
	type piece struct {
		says   string
		isWord bool
	}
	var l []piece
	for at := 0; at < len(s); {
		if says, n := wordAt(s[at:]); n > 0 {
			l, at = append(l, piece{says, true}), at+n
			continue
		}
		l, at = append(l, piece{s[at : at+1], false}), at+1
	}
	told, kept := "", 0 // kept: how much of told ends with the last word
	parted := false     // whether but blanks stand behind it
	for _, p := range l {
		if p.isWord && parted {
			told = told[:kept]
		}
		told += p.says
		parted = p.isWord || parted && blank.MatchString(p.says)
		if p.isWord {
			kept = len(told)
		}
	}
	return told
}

// hold holds Decode against what it must tell.
func hold(t *testing.T, s, want string) {
	t.Helper()
	if got := Decode(s); got != want {
		t.Fatalf("Decode(%s) is %s, want %s", shown(s), shown(got), shown(want))
	}
}

func holdAll(t *testing.T, s string) {
	t.Helper()
	hold(t, s, wanted(s))
}

// 11.1: texts, and what they are turned into.
var texts = []struct{ s, want string }{
	{"=?utf-8?Q?a_b?=", "a b"}, // the chapter's example
	{"", ""},
	{"Hello", "Hello"},
	{"Re: =?iso-8859-1?Q?Gr=FC=DFe?= from =?utf-8?B?S8O2bG4=?=", "Re: Gr\u00fc\u00dfe from K\u00f6ln"},
	{"=?ISO-8859-1?B?SWYgeW91IGNhbiByZWFkIHRoaXMgeW8=?=\t =?US-ASCII?b?dSB1bmRlcnN0YW5kIHRoZSBleGFtcGxlLg==?=", "If you can read this you understand the example."},
	// What B says.
	{"=?utf-8?B?w6Q=?=", "\u00e4"},
	{"=?utf-8?b?w6Q?=", "\u00e4"}, // without `=`
	{"=?utf-8?B??=", ""},
	{"=?utf-8?B?=?=", ""},
	{"=?utf-8?B?====?=", ""},
	{"=?utf-8?B?Y?=", ""},
	{"=?utf-8?B?YR?=", "a"},
	{"=?utf-8?B?YQ==YQ==?=", "a"}, // up to the first `=`
	{"=?utf-8?B?Y*Q_-~!?=", "a"},  // others are passed over
	{"=?utf-8?B?AAo?=", "\x00\n"},
	{"=?utf-8?B?4pgD?=", "=?utf-8?B?4pgD?="},     // not Valid
	{"=?utf-8?B?7aCA?=", "=?utf-8?B?7aCA?="},     // half of a pair
	{"=?utf-8?B?wIA?=", "=?utf-8?B?wIA?="},       // a longer form
	{"=?utf-8?B?9JCAgA?=", "=?utf-8?B?9JCAgA?="}, // beyond the last code point
	{"=?utf-8?B?8J+YgA?=", "\U0001f600"},
	{"=?iso-8859-1?B?7aCA?=", "\u00ed\u00a0\u0080"},
	// What Q says.
	{"=?utf-8?Q??=", ""},
	{"=?utf-8?Q?___?=", "   "},
	{"=?utf-8?Q?=5F=5f_?=", "__ "}, // a `_` told by digits is no blank
	{"=?utf-8?Q?=c3=A4?=", "\u00e4"},
	{"=?utf-8?Q?=?=", "="},
	{"=?utf-8?Q?a=?=", "a="},
	{"=?utf-8?Q?=4?=", "=4"},
	{"=?utf-8?Q?=4g=G4==41?=", "=4g=G4=A"},
	{"=?utf-8?Q?=_41?=", "= 41"},
	{"=?utf-8?Q?=0D=0A=00?=", "\r\n\x00"},
	{"=?utf-8?Q?=3D=3Futf-8=3FQ=3Fa=3F=3D?=", "=?utf-8?Q?a?="}, // what a word says is not looked at again
	{"=?utf-8?Q?=3D?=?utf-8?Q?a?=", "=?utf-8?Q?a?="},
	{"=?utf-8?Q?=20?= =?utf-8?Q?=09?=", " \t"}, // nor do blanks go that it says
	{"=?utf-8?Q?_a_?= =?utf-8?Q?_b_?=", " a  b "},
	{"=?utf-8?Q?!\"#$%&'()*+,-./:;<>@[\\]^`{|}~?=", "!\"#$%&'()*+,-./:;<>@[\\]^`{|}~"},
	// Charsets.
	{"=?Utf-8?q?a?=", "a"},
	{"=?US-ascii?q?a?=", "a"},
	{"=?us-ascii?Q?=C3=A4?=", "\u00e4"}, // those bytes, if they are Valid
	{"=?us-ascii?Q?=E4?=", "=?us-ascii?Q?=E4?="},
	{"=?utf-8?Q?=E4?=", "=?utf-8?Q?=E4?="},
	{"=?utf-8?Q?=C3?=", "=?utf-8?Q?=C3?="},
	{"=?utf-8?Q?=C3?==?utf-8?Q?=A4?=", "=?utf-8?Q?=C3?==?utf-8?Q?=A4?="}, // each has to be Valid by itself
	{"=?utf-8?Q?a=FFb?=", "=?utf-8?Q?a=FFb?="},
	{"=?iso-8859-1?Q?=C3=A4=00=80=FF?=", "\u00c3\u00a4\x00\u0080\u00ff"},
	{"=?Iso-8859-1?q??=", ""},
	{"=?koi8-r?Q?a?=", "=?koi8-r?Q?a?="},
	{"=?utf8?Q?a?=", "=?utf8?Q?a?="},
	{"=?utf-8*en?Q?a?=", "=?utf-8*en?Q?a?="},
	{"=?iso-8859-15?Q?a?=", "=?iso-8859-15?Q?a?="},
	{"=?ascii?Q?a?=", "=?ascii?Q?a?="},
	{"=?=?Q?a?=", "=?=?Q?a?="},
	{"=?~?B?!?=", "=?~?B?!?="},
	{"=?\u017fus-ascii?Q?a?=", "=?\u017fus-ascii?Q?a?="},
	{"=?u\u017f-ascii?Q?a?=", "=?u\u017f-ascii?Q?a?="}, // whose great letter is S in Unicode
	// No words.
	{"=??Q?a?=", "=??Q?a?="},
	{"=?utf-8??a?=", "=?utf-8??a?="},
	{"=?utf-8?X?a?=", "=?utf-8?X?a?="},
	{"=?utf-8?QQ?a?=", "=?utf-8?QQ?a?="},
	{"=?utf-8?QB?a?=", "=?utf-8?QB?a?="},
	{"=?utf-8?Q?a b?=", "=?utf-8?Q?a b?="},
	{"=?utf-8?Q?a\tb?=", "=?utf-8?Q?a\tb?="},
	{"=?utf-8?Q?a\r\n?=", "=?utf-8?Q?a\r\n?="},
	{"=?utf-8?Q?\u00e4?=", "=?utf-8?Q?\u00e4?="},
	{"=?utf-8?Q?\x7f?=", "=?utf-8?Q?\x7f?="},
	{"=?utf-8?B? YQ?=", "=?utf-8?B? YQ?="},
	{"=? utf-8?Q?a?=", "=? utf-8?Q?a?="},
	{"=?utf-8 ?Q?a?=", "=?utf-8 ?Q?a?="},
	{"=?utf-8? Q?a?=", "=?utf-8? Q?a?="},
	{"= ?utf-8?Q?a?=", "= ?utf-8?Q?a?="},
	{"=?utf-8?Q?a? =", "=?utf-8?Q?a? ="},
	{"=?utf-8?Q?a??=", "=?utf-8?Q?a??="},
	{"=?utf-8?Q?a?b?=", "=?utf-8?Q?a?b?="},
	{"=?utf-8?Q??b?=", "=?utf-8?Q??b?="},
	{"?utf-8?Q?a?=", "?utf-8?Q?a?="},
	{"=utf-8?Q?a?=", "=utf-8?Q?a?="},
	{"=?utf-8Q?a?=", "=?utf-8Q?a?="},
	{"=?utf-8?Qa?=", "=?utf-8?Qa?="},
	{"=?utf-8?Q?a=", "=?utf-8?Q?a="},
	{"=?utf-8?Q?a?", "=?utf-8?Q?a?"},
	{"=?utf-8?Q?a", "=?utf-8?Q?a"},
	{"=?utf-8?Q?", "=?utf-8?Q?"},
	{"=?utf-8?Q", "=?utf-8?Q"},
	{"=?utf-8?", "=?utf-8?"},
	{"=?utf-8", "=?utf-8"},
	{"=?", "=?"},
	{"=", "="},
	{"?=", "?="},
	{"=?=", "=?="},
	{"=??=", "=??="},
	{"=????=", "=????="},
	{" \t ", " \t "},
	{"a_b=41=\r\nc", "a_b=41=\r\nc"},
	{"\xff\xc3\x00=?\x80", "\xff\xc3\x00=?\x80"},
	// Where words begin and end.
	{"x=?utf-8?Q?a?=y", "xay"},
	{"\"=?utf-8?Q?a?=\"", "\"a\""},
	{"(=?utf-8?Q?a?=)", "(a)"},
	{"\xc3=?utf-8?Q?a?=\xa4", "\xc3a\xa4"},
	{"=?utf-8?Q?a?=?=", "a?="},
	{"=?utf-8?Q?a?=?utf-8?Q?b?=", "a?utf-8?Q?b?="}, // the `=` is the first one's
	{"==?utf-8?Q?a?==", "=a="},
	{"=?=?utf-8?Q?a?=", "=?a"},
	{"=?x?=?utf-8?Q?a?=", "=?x?a"},
	{"=?x?Q?=?utf-8?Q?a?=", "=?x?Q?a"},
	{"=?utf-8?Q?=?utf-8?Q?a?=", "=?utf-8?Q?a"},
	{"=?utf-8?Q?b=?utf-8?Q?a?=", "=?utf-8?Q?ba"},
	{"=?utf-8?Q?b =?utf-8?Q?a?=", "=?utf-8?Q?b a"},
	{"=?utf-8?=?utf-8?Q?a?=", "=?utf-8?a"},
	{"=?utf-8=?utf-8?Q?a?=", "=?utf-8a"},
	// What says nothing is none, so a word may begin at its end.
	{"=?koi8-r?Q?b?=?utf-8?Q?a?=", "=?koi8-r?Q?b?a"},
	{"=?utf-8?Q?=E4?=?utf-8?Q?a?=", "=?utf-8?Q?=E4?a"},
	// Blanks and tabs between words.
	{"=?utf-8?Q?a?= =?utf-8?Q?b?=", "ab"},
	{"=?utf-8?Q?a?=\t=?utf-8?Q?b?=", "ab"},
	{"=?utf-8?Q?a?= \t\t  =?iso-8859-1?B?5A?=", "a\u00e4"},
	{"=?utf-8?Q?a?==?utf-8?Q?b?=", "ab"},
	{"=?utf-8?Q?a?= =?utf-8?Q?b?=  =?utf-8?Q?c?=\t=?utf-8?Q?d?=", "abcd"},
	{"=?utf-8?Q?a?= =?utf-8?Q??= =?utf-8?Q?b?=", "ab"}, // one that says no byte is one
	{"=?utf-8?Q??= =?utf-8?Q??=", ""},
	{" =?utf-8?Q?a?=", " a"},
	{"\t =?utf-8?Q?a?= \t=?utf-8?Q?b?= \t", "\t ab \t"},
	{"=?utf-8?Q?a?= x =?utf-8?Q?b?=", "a x b"},
	{"=?utf-8?Q?a?=x=?utf-8?Q?b?= =?utf-8?Q?c?=", "axbc"},
	{"=?utf-8?Q?a?=\n=?utf-8?Q?b?=", "a\nb"},
	{"=?utf-8?Q?a?=\r\n =?utf-8?Q?b?=", "a\r\n b"},
	{"=?utf-8?Q?a?= \v =?utf-8?Q?b?=", "a \v b"},
	{"=?utf-8?Q?a?=\u00a0=?utf-8?Q?b?=", "a\u00a0b"},
	{"=?utf-8?Q?a?= =?koi8-r?Q?b?= =?utf-8?Q?c?=", "a =?koi8-r?Q?b?= c"}, // between a word and none
	{"=?utf-8?Q?a?= =?utf-8?Q?=E4?= =?utf-8?Q?c?=", "a =?utf-8?Q?=E4?= c"},
	{"=?koi8-r?Q?a?= =?koi8-r?Q?b?=", "=?koi8-r?Q?a?= =?koi8-r?Q?b?="},
	{"=?utf-8?Q?a?= =?koi8-r?Q?b?=?utf-8?Q?c?= =?utf-8?Q?d?=", "a =?koi8-r?Q?b?cd"},
}

// 11.1
func TestDecode(t *testing.T) {
	for _, c := range texts {
		hold(t, c.s, c.want)
		holdAll(t, c.s)
	}
}

// 11.1: words stand within any other bytes.
func TestDecodeWithin(t *testing.T) {
	ends := []string{"", " ", "\t", "\n", "x", "=", "?", "=?", "?=", "=?utf-8?Q?", "=?utf-8?Q?y?=", "=?utf-8?Q?y?= ", " =?utf-8?Q?y?=", "=?x?Q?y?=", "\xc3", "\xa4"}
	for _, c := range texts {
		for _, ahead := range ends {
			for _, behind := range ends {
				holdAll(t, ahead+c.s+behind)
			}
		}
	}
}

// 11.1: letters of charsets and of B and Q are of any size.
func TestDecodeSizes(t *testing.T) {
	for _, charset := range []string{"utf-8", "us-ascii", "iso-8859-1"} {
		for sizes := range 1 << len(charset) {
			b := []byte(charset)
			for i := range b {
				if sizes>>i&1 == 1 {
					b[i] = strings.ToUpper(charset)[i]
				}
			}
			for _, told := range []string{"?Q?=41b", "?q?=41b", "?B?QWI=", "?b?QWI="} {
				hold(t, "=?"+string(b)+told+"?=", "Ab")
			}
		}
	}
}

// 11.1: of another charset none is a word, however near it is, and of the three each is.
func TestDecodeNearCharsets(t *testing.T) {
	known := map[string]int{"utf-8": 1, "us-ascii": 1, "iso-8859-1": 1}
	try := func(charset string) {
		s := "=?" + charset + "?Q?a?="
		want := s
		if known[strings.ToLower(charset)] == 1 {
			want = "a"
		}
		hold(t, s, want)
	}
	for charset := range known {
		try(charset)
		for at := range len(charset) + 1 {
			for c := range 256 {
				put := charset[:at] + string([]byte{byte(c)})
				try(put + charset[at:])
				if at < len(charset) {
					try(put + charset[at+1:])
				}
			}
			if at < len(charset) {
				try(charset[:at] + charset[at+1:])
			}
		}
	}
	for _, charset := range []string{"", "utf", "utf8", "utf_8", "utf-16", "utf-7", "ascii", "latin1", "iso-8859-2", "iso8859-1", "windows-1252", "unknown-8bit", "utf-8utf-8"} {
		try(charset)
	}
}

// 11.1: which bytes a charset, the letter behind it and a text may have.
func TestDecodeEachSign(t *testing.T) {
	for c := range 256 {
		b := string([]byte{byte(c)})
		way := "=?utf-8?" + b + "?YQ?="
		switch c {
		case 'B', 'b':
			hold(t, way, "a")
		case 'Q', 'q':
			hold(t, way, "YQ")
		default:
			hold(t, way, way)
		}
		for _, told := range []string{b, b + "xy", "x" + b + "y", "xy" + b} {
			q, l := "=?utf-8?Q?"+told+"?=", "=?utf-8?B?"+told+"?="
			if c < 33 || c > 126 || c == '?' {
				hold(t, q, q)
				hold(t, l, l)
				continue
			}
			hold(t, q, strings.ReplaceAll(told, "_", " "))
			holdAll(t, l)
		}
	}
}

// 11.1: each byte as digits tell it, of each charset.
func TestDecodeEachByteTold(t *testing.T) {
	for c := range 256 {
		b := string([]byte{byte(c)})
		for _, told := range []string{
			fmt.Sprintf("Q?=%02X", c),
			fmt.Sprintf("q?=%02x", c),
			"B?" + base64.StdEncoding.EncodeToString([]byte{byte(c)}),
			"b?" + base64.RawStdEncoding.EncodeToString([]byte{byte(c)}),
		} {
			hold(t, "=?iso-8859-1?"+told+"?=", string(rune(c)))
			for _, charset := range []string{"utf-8", "us-ascii"} {
				s := "=?" + charset + "?" + told + "?="
				if c < 128 {
					hold(t, s, b)
					continue
				}
				hold(t, s, s)
			}
		}
	}
}

// 11.1: each two bytes, Valid or not.
func TestDecodeEachTwoBytes(t *testing.T) {
	for c := range 256 {
		for d := range 256 {
			b := []byte{byte(c), byte(d)}
			for _, told := range []string{"B?" + base64.StdEncoding.EncodeToString(b), fmt.Sprintf("Q?=%02X=%02X", c, d)} {
				s := "=?utf-8?" + told + "?="
				want := s
				if utf8.Valid(b) {
					want = string(b)
				}
				hold(t, s, want)
				hold(t, "=?iso-8859-1?"+told+"?=", string([]rune{rune(c), rune(d)}))
			}
		}
	}
}

// 11.1: each code point of Unicode, with some bytes of it lacking.
func TestDecodeEachPoint(t *testing.T) {
	for r := rune(0); r <= utf8.MaxRune; r += 37 {
		if !utf8.ValidRune(r) {
			continue
		}
		whole := string(r)
		for n := range len(whole) + 1 {
			s := "=?utf-8?B?" + base64.StdEncoding.EncodeToString([]byte(whole[:n])) + "?="
			want := s
			if n == 0 || n == len(whole) {
				want = whole[:n]
			}
			hold(t, s, want)
		}
	}
}

// left is what is told of what stands between two words.
func left(gap string) string {
	if strings.Trim(gap, " \t") == "" {
		return ""
	}
	return gap
}

// 11.1: what stands between two words goes if it is blanks and tabs alone.
func TestDecodeGaps(t *testing.T) {
	const one, two = "=?utf-8?Q?a?=", "=?ISO-8859-1?b?5A?="
	const none = "=?koi8-r?Q?b?="
	for c := range 256 {
		for d := range 256 {
			pair := string([]byte{byte(c), byte(d)})
			for _, gap := range []string{pair, " " + pair + "\t", pair[:1] + " " + pair[1:]} {
				hold(t, one+gap+two, "a"+left(gap)+"\u00e4")
			}
		}
	}
	var each func(gap string, more int)
	each = func(gap string, more int) {
		hold(t, one+gap+two, "a"+left(gap)+"\u00e4")
		hold(t, one+gap+two+gap+one, "a"+left(gap)+"\u00e4"+left(gap)+"a")
		hold(t, gap+one, gap+"a")
		hold(t, one+gap, "a"+gap)
		hold(t, one+gap+none+gap+two, "a"+gap+none+gap+"\u00e4")
		if more == 0 {
			return
		}
		for _, sign := range []string{" ", "\t", "\r", "\n", "x", "\u00a0", "="} {
			each(gap+sign, more-1)
		}
	}
	each("", 4)
}

// 11.1: each byte at each place of some words.
func TestDecodeEachByte(t *testing.T) {
	const s = "x=?Utf-8?q?=C3=A4_?= \t=?iso-8859-1?B?5A==?==?x?Q?y?=z"
	for at := range len(s) + 1 {
		for c := range 256 {
			put := s[:at] + string([]byte{byte(c)})
			holdAll(t, put+s[at:])
			if at < len(s) {
				holdAll(t, put+s[at+1:])
			}
		}
		for to := at; to <= len(s); to++ {
			holdAll(t, s[at:to])
			holdAll(t, s[:at]+s[to:])
		}
	}
}

// 11.1: all short rows of what counts.
func TestDecodeEachShort(t *testing.T) {
	var each func(s string, pieces []string, left int)
	each = func(s string, pieces []string, left int) {
		holdAll(t, s)
		if left == 0 {
			return
		}
		for _, p := range pieces {
			each(s+p, pieces, left-1)
		}
	}
	each("", []string{"=?utf-8?Q?", "=?x?b?", "a", "?=", " ", "\n", "=?", "=E4"}, 6)
	for _, ahead := range []string{"", "=?utf-8", "=?utf-8?Q", "=?utf-8?b?YQ", "=?utf-8?Q?a?=", "=?x?Q?=?utf-8?Q?="} {
		each(ahead, []string{"=", "?", "Q", "b", " "}, 6)
	}
}

// 11.1: rows of any pieces.
func TestDecodeAny(t *testing.T) {
	r := rand.New(rand.NewSource(11))
	pieces := []string{
		"=?utf-8?Q?a?=", "=?UTF-8?b?w6Q=?=", "=?iso-8859-1?q?=E4?=", "=?us-ascii?B?YQ?=", "=?koi8-r?Q?x?=", "=?utf-8?Q?=E4?=",
		"=?utf-8?", "=?iso-8859-1?", "=?", "?=", "?", "=", "Q?", "B?", "a", "_", "=4", "=C3=A4", "w6Q=", " ", "\t", " \t ", "\r\n", "\xc3", "\u00e4", "x",
	}
	for range 300000 {
		var b strings.Builder
		for range r.Intn(16) {
			b.WriteString(pieces[r.Intn(len(pieces))])
		}
		holdAll(t, b.String())
	}
}

// 11.1: what the library tells in words is read back.
func TestDecodeOfEncoded(t *testing.T) {
	r := rand.New(rand.NewSource(12))
	signs := []rune{'a', 'b', 'Z', '0', ' ', '\t', '_', '=', '?', '"', '(', '\n', 0, 0x7f, 0xe4, 0xff, 0x20ac, 0xfffd, 0x1f600, 0x10ffff}
	for range 20000 {
		points := []rune{0xe4} // what has none beyond ASCII the library may leave as it is
		for range r.Intn(120) {
			points = append(points, signs[r.Intn(len(signs))])
		}
		s := string(points)
		for _, told := range []string{mime.QEncoding.Encode("utf-8", s), mime.BEncoding.Encode("UTF-8", s)} {
			if !strings.HasPrefix(told, "=?") {
				t.Fatalf("the library tells %s", shown(told))
			}
			hold(t, told, s)
			hold(t, "x "+told+" y", "x "+s+" y")
		}
	}
}

// 11.1: every call ends soon (R1), of long texts and of many words, and of much that is nearly one.
func TestDecodeGreat(t *testing.T) {
	const n = 1 << 18
	const word = "=?utf-8?Q?a?="
	long := strings.Repeat("x", n)
	for _, s := range []string{
		long, strings.Repeat(" ", n), strings.Repeat("=", n), strings.Repeat("?", n), strings.Repeat("=?", n), strings.Repeat("?=", n),
		"=?" + long, "=?" + long + "?Q?a?=", "=?utf-8?" + long, "=?utf-8?Q?" + long, "=?utf-8?Q?" + long + "?",
		strings.Repeat("=?utf-8?Q?", n), strings.Repeat("=?utf-8?", n), strings.Repeat("=?utf-8?Q?a", n),
		strings.Repeat("=?koi8-r?Q?b?=", n), "=?koi8-r?B?" + long + "?=", "=?utf-8?Q?" + long + "=E4?=",
		strings.Repeat("=?utf-8?Q?=E4?= ", n), strings.Repeat("=?x", n) + "?Q?a?=", "=?utf-8?Q?a" + strings.Repeat("?", n),
	} {
		hold(t, s, s)
		hold(t, word+s, "a"+s)
		hold(t, s+" "+word, s+" a")
	}
	hold(t, strings.Repeat(word, n), strings.Repeat("a", n))
	hold(t, strings.Repeat(word+" ", n), strings.Repeat("a", n)+" ")
	hold(t, strings.Repeat(word+"x", n), strings.Repeat("ax", n))
	hold(t, strings.Repeat(word+strings.Repeat(" \t", n/1000), 1000)+word, strings.Repeat("a", 1001))
	hold(t, word+strings.Repeat(" ", n)+word, "aa")
	hold(t, word+strings.Repeat(" ", n)+"x"+word, "a"+strings.Repeat(" ", n)+"xa")
	hold(t, "=?utf-8?Q?"+long+"?=", long)
	hold(t, "=?utf-8?Q?"+strings.Repeat("=C3=A4", n)+"?=", strings.Repeat("\u00e4", n))
	hold(t, "=?iso-8859-1?Q?"+strings.Repeat("=E4", n)+"?=", strings.Repeat("\u00e4", n))
	hold(t, "=?utf-8?B?"+strings.Repeat("w6Q9", n)+"?=", strings.Repeat("\u00e4=", n))
}

// within says whether the bytes of a stand in those of b.
func within(a, b string) bool {
	from := uintptr(unsafe.Pointer(unsafe.StringData(a)))
	to := uintptr(unsafe.Pointer(unsafe.StringData(b)))
	return a != "" && b != "" && to <= from && from < to+uintptr(len(b))
}

// R3: what is told is new memory; what is handed in stays as it is; R1: it is told again.
func TestNewMemory(t *testing.T) {
	for _, c := range texts {
		s := strings.Clone(c.s)
		one, two := Decode(s), Decode(s)
		if one != c.want || two != c.want || s != c.s {
			t.Errorf("Decode(%q): %q, then %q", c.s, one, two)
		}
		if within(one, s) || within(one, two) {
			t.Errorf("Decode(%q) tells what there is already", c.s)
		}
	}
}

// labels is the names of the labels that loops in a file have.
func labels(file *ast.File) map[string]ast.Stmt {
	loops := map[string]ast.Stmt{}
	ast.Inspect(file, func(node ast.Node) bool {
		if l, ok := node.(*ast.LabeledStmt); ok {
			switch l.Stmt.(type) {
			case *ast.ForStmt, *ast.RangeStmt:
				loops[l.Label.Name] = l.Stmt
			}
		}
		return true
	})
	return loops
}

// The chapter's way: a word is found by a labelled loop, which is gone on with from within another one.
func TestFoundByLabelledLoop(t *testing.T) {
	file, err := parser.ParseFile(token.NewFileSet(), "word.go", nil, 0)
	if err != nil {
		t.Fatal(err)
	}
	loops := labels(file)
	jumps, begins := 0, 0
	for name, loop := range loops {
		ast.Inspect(loop, func(node ast.Node) bool {
			switch n := node.(type) {
			case *ast.BranchStmt:
				if n.Label != nil && n.Label.Name == name {
					jumps++
				}
			case *ast.BasicLit:
				if n.Value == `"=?"` {
					begins++
				}
			}
			return true
		})
	}
	if len(loops) != 1 || jumps == 0 || begins != 1 {
		t.Errorf("%d labelled loops, gone on with at %d places; they look for the beginning of a word at %d", len(loops), jumps, begins)
	}
}
