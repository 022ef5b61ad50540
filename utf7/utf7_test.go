package utf7

import (
	"encoding/base64"
	"regexp"
	"strings"
	"testing"
	"unicode/utf16"
	"unicode/utf8"

	"pillarbox/api"
)

// names are texts and what Encode tells of them.
var names = []struct{ s, told string }{
	{"", ""},
	{"&", "&-"}, // the chapter's examples
	{"ä", "&AOQ-"},
	{"~peter/mail/台北/日本語", "~peter/mail/&U,BTFw-/&ZeVnLIqe-"}, // RFC 3501, 5.1.3
	{"INBOX", "INBOX"},
	{"a b", "a b"},
	{" ", " "},
	{"  a ", "  a "},
	{" !\"#$%'()*+,-./0189:;<=>?@AMZ[\\]^_`amz{|}~", " !\"#$%'()*+,-./0189:;<=>?@AMZ[\\]^_`amz{|}~"},
	{"-", "-"},
	{"+", "+"}, // the sign of another UTF-7
	{"+AOQ-", "+AOQ-"},
	{"&&", "&-&-"},
	{"&&&", "&-&-&-"},
	{"&-", "&--"},
	{"-&", "-&-"},
	{"&-&", "&--&-"},
	{"a&b", "a&-b"},
	{"&AOQ-", "&-AOQ-"}, // a name, told again
	{"&-AOQ-", "&--AOQ-"},
	{"ää", "&AOQA5A-"}, // one row, as long as it goes
	{"äöü", "&AOQA9gD8-"},
	{"äöüß", "&AOQA9gD8AN8-"},
	{"aä", "a&AOQ-"},
	{"äa", "&AOQ-a"},
	{"aäb", "a&AOQ-b"},
	{"äaä", "&AOQ-a&AOQ-"},
	{"äöaü", "&AOQA9g-a&APw-"}, // a row keeps nothing of a longer one
	{"äaöü", "&AOQ-a&APYA,A-"},
	{"ä ö", "&AOQ- &APY-"},
	{"ä&ö", "&AOQ-&-&APY-"},
	{"&ä&", "&-&AOQ-&-"},
	{"ä-", "&AOQ--"},
	{"-ä-", "-&AOQ--"},
	{"äAOQ", "&AOQ-AOQ"}, // letters of base64 right behind a row
	{"ä&AOQ-", "&AOQ-&-AOQ-"},
	{"\x00", "&AAA-"}, // both bounds of what stands as it is
	{"\x1f", "&AB8-"},
	{"\x1f ", "&AB8- "},
	{"~\x7f", "~&AH8-"},
	{"\x7f", "&AH8-"},
	{"\u0080", "&AIA-"},
	{"\t", "&AAk-"},
	{"\r\n", "&AA0ACg-"},
	{"a\r\nb", "a&AA0ACg-b"},
	{"\x00\x00\x00", "&AAAAAAAA-"},
	{"ÿ", "&AP8-"},
	{"Ā", "&AQA-"},               // the higher byte first
	{"ÿÿ", "&AP8A,w-"},           // `,` in the place of `/`
	{"\uffff\uffff", "&,,,,,w-"}, // of each `/`
	{"\ufbef\ubefb", "&+++++w-"},
	{"\u07ff\u0800", "&B,8IAA-"},
	{"\ud7ff", "&1,8-"},
	{"\ue000", "&4AA-"},
	{"\ufffd", "&,,0-"},
	{"\ufeff", "&,v8-"},
	{"\uffff", "&,,8-"},
	{"\U00010000", "&2ADcAA-"}, // above 0xffff as two
	{"\U000103ff", "&2ADf,w-"},
	{"\U00010400", "&2AHcAA-"},
	{"😀", "&2D3eAA-"},
	{"😀😀", "&2D3eANg93gA-"},
	{"ä😀", "&AOTYPd4A-"},
	{"a😀b", "a&2D3eAA-b"},
	{"\U0010ffff", "&2,,f,w-"},
	{"a\u0308", "a&Awg-"}, // no other form of the same sign
}

// invalids are texts that are not Valid.
var invalids = []string{
	"\xff", "\x80", "\xbf", "\xc3", "\xe2\x82", "\xf0\x9f\x98",
	"\xc3a", "\xc3 ", "\xc3&", "\xe4",
	"\xc0\x80", "\xc0\xa6", "\xe0\x80\xa6", "\xe0\x9f\xbf", "\xf0\x8f\xbf\xbf", // longer than they must be
	"\xed\xa0\x80", "\xed\xbf\xbf", "\xed\xa0\xbd\xed\xb8\x80", // halves of pairs
	"\xf4\x90\x80\x80", "\xf8\x88\x80\x80\x80", // too high
}

// nothings are texts that Encode tells of none.
var nothings = []string{
	"&", "&A", "&AOQ", "&AOQA9g", "&AOQ ", "&AOQ.", "&AOQ+", // not ended
	"&&-", "&&AOQ-", "&AOQ&-", "&AO&Q-", "&AOQ&APY-",
	"&a", "& -", "&AOQ -", "& AOQ-", "&A OQ-", "&AO\nQ-", "&AOQ\r\n-", // others in a row
	"&!-", "&!!!-", "&AO.-", "&AO_-", "&AOQ\x00-", "&ä-", "&\xff-", "&AOQä-", "&\xc1OQ-",
	"&AP8A/w-", "&//8-", "&AP8A_w-", "&/-", // `/` of base64
	"&=-", "&AOQ=-", "&AOQ==-", "&=AOQ-", "&AO=Q-", "&AOQA9g=-", "&AOQA9g==-", "&AOQA9gD8=-", "&====-", // `=` of base64
	"&,-", "&A-", "&AA-", "&AO-", "&AOQA-", "&AOQA9-", "&AOQAA-", "&AOQAAAA-", "&AOQA9gD-", "&AOQA9gDAA-", "&AOQA9gDAAA-", // not whole units
	"&AOR-", "&AOS-", "&AOT-", "&AOQA9h-", "&AOQA9j-", "&AOQA9v-", "&AAB-", // bits left
	"&ACA-", "&ACY-", "&AGE-", "&AH4-", "&AC0-", "&AOQAYQ-", "&AGEA5A-", "&AOQAYQD2-", "&AOQAIA-", // what stands as it is
	"&ACYALQ-", "&AOQAJg-", "&ACY--",
	"&AOQ-&APY-", "&AOQ-&AOQ-&AOQ-", "&2D0-&3gA-", "a&AOQ-&APY-b", "&AAA-&AAA-", // a row cut in two
	"&2AA-", "&2D0-", "&2,8-", "&3AA-", "&3gA-", "&3,8-", // halves of pairs
	"&2D3YPQ-", "&3gDYPQ-", "&3gDeAA-", "&2D0A5A-", "&3gAA5A-", "&AOTYPQ-", "&AOTeAA-", "&2D0AYQ-",
	"&2D3eAN4A-", "&2D3YPd4A-", "&2D0A5N4A-", "&2D3eANg9-", "&2D3,,w-", "&1,,eAA-", "&2D3gAA-",
	"ä", "aä", "\x00", "\n", "a\n", "\r\n", "\t", "\x1f", "\x7f", "\u0080", "日本語", "😀", // what stands in rows alone
	"\xff", "\x80", "\xe4", "\xc3", "a\xff", "\xed\xa0\x80",
	"&AOQ-ä", "ä&AOQ-", "&AOQ-\xff", "&-\x7f",
}

var (
	letters = base64.NewEncoding("ABCDEFGHIJKLMNOPQRSTUVWXYZabcdefghijklmnopqrstuvwxyz0123456789+,").WithPadding(base64.NoPadding).Strict()
	others  = regexp.MustCompile(`[^ -~]+`)
	row     = regexp.MustCompile(`&[A-Za-z0-9+,]+-`)
	rows    = regexp.MustCompile(`&[A-Za-z0-9+,]+-&[A-Za-z0-9+,]`)
	form    = regexp.MustCompile(`^(?:[ -%\'-~]|&-|&[A-Za-z0-9+,]+-)*$`)
)

// rowOf is the row of any units, whether Encode tells it or not.
func rowOf(units ...uint16) string {
	var b []byte
	for _, u := range units {
		b = append(b, byte(u>>8), byte(u))
	}
	return "&" + letters.EncodeToString(b) + "-"
}

// encodeWant is what Encode must tell, by the library.
func encodeWant(s string) (string, api.Errno) {
	if !utf8.ValidString(s) {
		return "", api.ErrForm
	}
	s = strings.ReplaceAll(s, "&", "&-")
	return others.ReplaceAllStringFunc(s, func(found string) string {
		return rowOf(utf16.Encode([]rune(found))...)
	}), api.OK
}

// pointsOf is the text that a row tells, by the library; empty where it tells none.
func pointsOf(row string) string {
	b, err := letters.DecodeString(row[1 : len(row)-1])
	if err != nil || len(b)%2 != 0 {
		return ""
	}
	var units []uint16
	for ; len(b) > 0; b = b[2:] {
		units = append(units, uint16(b[0])<<8|uint16(b[1]))
	}
	points := utf16.Decode(units)
	s := string(points)
	// A half of a pair comes out as another code point, and so goes back as another unit.
	if rowOf(utf16.Encode(points)...) != row || others.FindString(s) != s {
		return ""
	}
	return s
}

// decodeWant is what Decode must tell, by the library and what a name may look like.
func decodeWant(s string) (string, api.Errno) {
	if !form.MatchString(s) || rows.MatchString(s) {
		return "", api.ErrForm
	}
	good := true
	x := row.ReplaceAllStringFunc(s, func(found string) string {
		points := pointsOf(found)
		good = good && points != ""
		return points
	})
	if !good {
		return "", api.ErrForm
	}
	// No row told an `&`, so each that is left is that of `&-`.
	return strings.ReplaceAll(x, "&-", "&"), api.OK
}

// holdTold holds what Encode tells of any text, the bytes that it takes, and the way back.
func holdTold(t *testing.T, s string) {
	t.Helper()
	told, e := Encode(s)
	if want, wantErr := encodeWant(s); told != want || e != wantErr {
		t.Fatalf("Encode(%.80q): %.200q, %d, want %.200q, %d", s, told, e, want, wantErr)
	}
	for i := range len(told) {
		if told[i] < 32 || told[i] > 126 {
			t.Fatalf("Encode(%.80q): a byte %d", s, told[i])
		}
	}
	if e != api.OK {
		return
	}
	if x, e := Decode(told); x != s || e != api.OK {
		t.Fatalf("Decode(%.200q): %.80q, %d, want %.80q", told, x, e, s)
	}
}

// holdRead holds what Decode makes of any text, and that just this is told of what it made.
func holdRead(t *testing.T, s string) {
	t.Helper()
	x, e := Decode(s)
	if want, wantErr := decodeWant(s); x != want || e != wantErr {
		t.Fatalf("Decode(%.200q): %.80q, %d, want %.80q, %d", s, x, e, want, wantErr)
	}
	if e != api.OK {
		return
	}
	if told, e := Encode(x); told != s || e != api.OK {
		t.Fatalf("Encode(%.80q): %.200q, %d, want %.200q", x, told, e, s)
	}
}

// eachOf goes through each text of up to n of these pieces.
func eachOf(pieces []string, n int, do func(s string)) {
	from := []string{""}
	do("")
	for range n {
		var next []string
		for _, s := range from {
			for _, piece := range pieces {
				next = append(next, s+piece)
				do(s + piece)
			}
		}
		from = next
	}
}

// 5.1
func TestEncode(t *testing.T) {
	for _, c := range names {
		if told, e := Encode(c.s); told != c.told || e != api.OK {
			t.Errorf("Encode(%q): %q, %d, want %q", c.s, told, e, c.told)
		}
		for _, other := range names {
			holdTold(t, c.s+other.s)
			holdTold(t, c.s+"/"+other.s)
		}
	}
}

// 5.1: beside the error stands no text (R4), wherever the fault lies.
func TestEncodeInvalid(t *testing.T) {
	long := strings.Repeat("ä&a", 1000)
	for _, bad := range invalids {
		for _, s := range []string{bad, "a" + bad, bad + "a", "&" + bad, bad + "&", "ä" + bad, bad + "ä", long + bad, bad + long, long + bad + long} {
			if told, e := Encode(s); told != "" || e != api.ErrForm {
				t.Errorf("Encode(%.40q): %.40q, %d", s, told, e)
			}
		}
	}
}

// 5.1, 5.2, 5.3: each code point there is, alone, beside those that stand as they are, and within a row.
func TestEachPoint(t *testing.T) {
	for r := rune(0); r <= utf8.MaxRune; r++ {
		if !utf8.ValidRune(r) {
			continue
		}
		s := string(r)
		told, e := Encode(s)
		want := rowOf(utf16.Encode([]rune{r})...)
		switch {
		case r == '&':
			want = "&-"
		case r >= 32 && r <= 126:
			want = s
		}
		if told != want || e != api.OK {
			t.Fatalf("Encode(%q): %q, %d, want %q", s, told, e, want)
		}
		if x, e := Decode(told); x != s || e != api.OK {
			t.Fatalf("Decode(%q): %q, %d, want %q", told, x, e, s)
		}
		if r < 0x1000 || r%61 == 0 {
			holdTold(t, "a"+s+"-")
			holdTold(t, "ä"+s+"&")
			holdTold(t, s+"😀"+s)
		}
	}
}

// 5.1, 5.3: each text of up to two bytes, and of three within the bounds of a code point's bytes.
func TestEncodeEachShort(t *testing.T) {
	for i := range 1 << 8 {
		holdTold(t, string([]byte{byte(i)}))
	}
	for i := range 1 << 16 {
		s := string([]byte{byte(i >> 8), byte(i)})
		holdTold(t, s)
		holdTold(t, s+"\x80")
		holdTold(t, "\xe4"+s)
	}
}

// 5.1, 5.2, 5.3: rows of each length, that leave each rest of a four and end in each way.
func TestRowsOfEachLength(t *testing.T) {
	for n := range 50 {
		for _, piece := range []string{"ä", "ÿ", "日", "😀", "\uffff", "\x00", "ä😀"} {
			s := strings.Repeat(piece, n)
			holdTold(t, s)
			holdTold(t, s+"a"+s)
			holdTold(t, "&"+s+"-"+s+"&")
			holdTold(t, s+"\U0010ffff"+s)
		}
	}
}

// 5.1: a row begins empty, whatever stood in the one ahead of it.
func TestRowsOneAfterAnother(t *testing.T) {
	pieces := []string{"", "ä", "öü", "😀", "日本語", strings.Repeat("ß", 100)}
	for _, first := range pieces {
		for _, second := range pieces {
			for _, third := range pieces {
				holdTold(t, first+"a"+second+"&"+third)
			}
		}
	}
}

// 5.2
func TestDecode(t *testing.T) {
	for _, c := range names {
		if x, e := Decode(c.told); x != c.s || e != api.OK {
			t.Errorf("Decode(%q): %q, %d, want %q", c.told, x, e, c.s)
		}
		for _, other := range names {
			holdRead(t, c.told+other.told)
			holdRead(t, c.told+"/"+other.told)
		}
	}
}

// 5.2: beside the error stands no text (R4), wherever the fault lies.
func TestDecodeNone(t *testing.T) {
	long := strings.Repeat("&AOQ-&-a", 1000)
	for _, bad := range nothings {
		for _, s := range []string{bad, "a" + bad, bad + " ", "&-" + bad, bad + " &-", long + bad, bad + " " + long} {
			if x, e := Decode(s); x != "" || e != api.ErrForm {
				t.Errorf("Decode(%.40q): %.40q, %d", s, x, e)
			}
		}
		holdRead(t, bad)
	}
}

// 5.2: each byte at each place of a name, put in and in the place of another.
func TestDecodeEachByte(t *testing.T) {
	for _, told := range []string{"", "a", "&-", "&AOQ-", "a&AOQ-b", "&AOQA9g-", "&AP8A,w-", "&2D3eAA-", "&-&AOQ-&-"} {
		for c := range 256 {
			b := string([]byte{byte(c)})
			for at := range len(told) + 1 {
				holdRead(t, told[:at]+b+told[at:])
				if at < len(told) {
					holdRead(t, told[:at]+b+told[at+1:])
				}
			}
		}
	}
}

// 5.2: a name torn at each place.
func TestDecodeTorn(t *testing.T) {
	for _, c := range names {
		for at := range len(c.told) + 1 {
			holdRead(t, c.told[:at])
			holdRead(t, c.told[at:])
			if at < len(c.told) {
				holdRead(t, c.told[:at]+c.told[at+1:])
			}
		}
	}
}

// 5.2: each text of up to seven of these signs.
func TestDecodeEachOfFewSigns(t *testing.T) {
	eachOf(strings.Split("&-AOQ,", ""), 7, func(s string) { holdRead(t, s) })
	eachOf(strings.Split("&-Q/=\n", ""), 5, func(s string) { holdRead(t, s) })
}

// 5.2: each row of up to three letters, which are all that tell one unit or less, and those of the other alphabets.
func TestDecodeEachRow(t *testing.T) {
	signs := strings.Split("ABCDEFGHIJKLMNOPQRSTUVWXYZabcdefghijklmnopqrstuvwxyz0123456789+,/_=", "")
	eachOf(signs, 3, func(s string) { holdRead(t, "&"+s+"-") })
}

// 5.2: each unit there is, alone and with another on both sides.
func TestDecodeEachUnit(t *testing.T) {
	for u := range 1 << 16 {
		holdRead(t, rowOf(uint16(u)))
		holdRead(t, rowOf(uint16(u), 0xe4))
		holdRead(t, rowOf(0xd83d, uint16(u)))
		holdRead(t, rowOf(uint16(u), 0xde00))
	}
}

// 5.2: up to four units, from both sides of each bound.
func TestDecodeUnits(t *testing.T) {
	var pieces []string
	for _, u := range []uint16{0, 0x1f, 0x20, '&', 0x7e, 0x7f, 0xe4, 0xd7ff, 0xd800, 0xdbff, 0xdc00, 0xdfff, 0xe000, 0xffff} {
		pieces = append(pieces, string([]byte{byte(u >> 8), byte(u)}))
	}
	eachOf(pieces, 4, func(s string) {
		holdRead(t, "&"+letters.EncodeToString([]byte(s))+"-")
	})
}

// 5.3: no two texts of up to five of these pieces have one name.
func TestUnlikeNames(t *testing.T) {
	pieces := []string{"&", "-", "A", "AOQ", "&AOQ-", "ä", "ö", "\x00", "😀"}
	texts := map[string]bool{}
	toldOf := map[string]string{}
	eachOf(pieces, 5, func(s string) {
		if texts[s] {
			return
		}
		texts[s] = true
		told, e := Encode(s)
		if was, found := toldOf[told]; found || e != api.OK {
			t.Fatalf("Encode(%q): %q, %d, as of %q", s, told, e, was)
		}
		toldOf[told] = s
		holdTold(t, s)
	})
}

// 5.1, 5.2, 5.3: texts of many rows, of long rows, and of none, told twice.
func TestLong(t *testing.T) {
	for _, piece := range []string{"a", "&", "ä", "aä", "&ä", "😀", "a😀", "日本語 - ", "\x00\x7f~"} {
		s := strings.Repeat(piece, 1<<14)
		holdTold(t, s)
		told, _ := Encode(s)
		holdTold(t, told)
	}
	for _, piece := range []string{"&", "-", "&A", "&AOQ", "&AOQ-", "&-", "AOQ-", "&&-", "&AOQ- ", "&2D0-", "\xff"} {
		holdRead(t, strings.Repeat(piece, 1<<14))
		holdRead(t, "&"+strings.Repeat(piece, 1<<14)+"-")
	}
}

// The way of the chapter: a row takes the room of those ahead of it, so it isn't grown again.
func TestRowsShareRoom(t *testing.T) {
	piece := strings.Repeat("ä", 1<<12) + "a"
	allocs := func(s string) float64 {
		return testing.AllocsPerRun(10, func() { Encode(s) })
	}
	const more = 100
	grown := allocs(strings.Repeat(piece, 1+more)) - allocs(piece)
	// A row's copy, its letters, the name's own room: growing it from nothing takes more than all of these.
	if each := grown / more; each > 5 {
		t.Errorf("%v allocations a row", each)
	}
}
