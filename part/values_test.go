package part

import (
	"fmt"
	"math/rand"
	"mime"
	"regexp"
	"slices"
	"strings"
	"testing"

	"pillarbox/api"
)

var (
	great     = regexp.MustCompile(`[A-Z]+`)
	slash     = regexp.MustCompile(`(?s)\\(.)`)
	ends      = regexp.MustCompile(`^[ \t]+|[ \t]+$`)
	firstWord = regexp.MustCompile(`^[^;]*`)
	oneParam  = regexp.MustCompile(`(?s)^;([^=;]*)(?:=[ \t]*(?:"((?:\\.|[^"\\])*\\?)(?:"[^;]*|$)|([^;]*)))?`)
)

func bare(s string) string  { return ends.ReplaceAllString(s, "") }
func lower(s string) string { return great.ReplaceAllStringFunc(bare(s), strings.ToLower) }

// wantedValues is what Values must tell: it takes parameters off the text by a pattern.
func wantedValues(s string) (string, []api.Field) {
	word := firstWord.FindString(s)
	var l []api.Field
	for s = s[len(word):]; s != ""; {
		m := oneParam.FindStringSubmatch(s)
		p := api.Field{Name: lower(m[1]), Value: slash.ReplaceAllString(m[2], "$1") + bare(m[3])}
		if p.Name != "" {
			l = append(l, p)
		}
		s = s[len(m[0]):]
	}
	return lower(word), l
}

// holdValues holds Values against what it must tell.
func holdValues(t *testing.T, s, word string, params []api.Field) {
	t.Helper()
	got, l := Values(s)
	if got != word || !slices.Equal(l, params) {
		t.Fatalf("Values(%s) is %s, %s; want %s, %s", shown(s), shown(got), shown(l), shown(word), shown(params))
	}
}

func holdAllValues(t *testing.T, s string) {
	t.Helper()
	word, params := wantedValues(s)
	holdValues(t, s, word, params)
}

// value is a header's value, and what it tells.
type value struct {
	s      string
	word   string
	params []api.Field
}

// 13.1: values of which nothing is left open.
var closed = []value{
	{"", "", nil},
	{"text/plain", "text/plain", nil},
	{"text/plain; charset=us-ascii", "text/plain", list("charset", "us-ascii")},
	{"text/plain; charset=\"us-ascii\"", "text/plain", list("charset", "us-ascii")},
	{"multipart/mixed; boundary=\"--=_a b:(c)?\"; type=x", "multipart/mixed", list("boundary", "--=_a b:(c)?", "type", "x")},
	{"attachment; filename=\"a; b=\\\"c\\\".txt\";size=12", "attachment", list("filename", "a; b=\"c\".txt", "size", "12")},
	// The word.
	{"TEXT/Html", "text/html", nil},
	{" \t Text \t", "text", nil},
	{" A \t B ; c", "a \t b", list("c", "")},
	{"a=B;c=d", "a=b", list("c", "d")},
	{"\"A;B\"", "\"a", list("b\"", "")}, // quotes count behind a `=` alone
	{"(a;b)", "(a", list("b)", "")},
	{"\r\nA\v", "\r\na\v", nil}, // blanks and tabs alone go
	{"\u00a0A\u2003", "\u00a0a\u2003", nil},
	{"\u00c4\xff\x00[\u212a", "\u00c4\xff\x00[\u212a", nil}, // A to Z alone turn small
	{"@[`{", "@[`{", nil},
	{"ABCDEFGHIJKLMNOPQRSTUVWXYZ", "abcdefghijklmnopqrstuvwxyz", nil},
	// Without parameters.
	{";", "", nil},
	{"a;", "a", nil},
	{"a;;; \t;", "a", nil},
	{"a; =;", "a", nil},
	{"a;=b", "a", nil},
	{"a; \t=\"b\"", "a", nil},
	{"a;==b", "a", nil},
	// Parameters with an empty name are passed over, whole.
	{"a;=b;c=d", "a", list("c", "d")},
	{"a;=\"b;c=d\"e;f=g", "a", list("f", "g")},
	{"a;b;;c;", "a", list("b", "", "c", "")},
	{";x=y", "", list("x", "y")},
	// Names.
	{"a; \tB \t=c", "a", list("b", "c")},
	{"a;B C=d", "a", list("b c", "d")},
	{"a;B", "a", list("b", "")},
	{"a; B \t;C", "a", list("b", "", "c", "")},
	{"a;\"b;c\"=d", "a", list("\"b", "", "c\"", "d")},
	{"a;\"b=\"c\"", "a", list("\"b", "c")},
	{"a;b\\=c", "a", list("b\\", "c")},
	{"a;\r\n b\r\n=c", "a", list("\r\n b\r\n", "c")},
	{"a;\u00c4B=\u00c4B", "a", list("\u00c4b", "\u00c4B")},
	{"a;\xc3\xff=\xa4", "a", list("\xc3\xff", "\xa4")},
	{"a;filename*=utf-8''%e4", "a", list("filename*", "utf-8''%e4")},
	{"a;b*0=c;b*1=d", "a", list("b*0", "c", "b*1", "d")},
	{"a;b=1;B=2;b=1", "a", list("b", "1", "b", "2", "b", "1")}, // each is told, in its order
	// Values without quotes.
	{"a;b=", "a", list("b", "")},
	{"a;b= \t", "a", list("b", "")},
	{"a;b=;c", "a", list("b", "", "c", "")},
	{"a;b= \tC \tD \t;e", "a", list("b", "C \tD", "e", "")},
	{"a;b=c=d;e==f", "a", list("b", "c=d", "e", "=f")},
	{"a;b=c\"d;e\"", "a", list("b", "c\"d", "e\"", "")},
	{"a;b=c\"d\"", "a", list("b", "c\"d\"")},
	{"a;b=\\\"c;d\\\"", "a", list("b", "\\\"c", "d\\\"", "")},
	{"a;b='c;d'", "a", list("b", "'c", "d'", "")},
	{"a;b=(c)d", "a", list("b", "(c)d")},
	{"a;b=\r\n\"c\"", "a", list("b", "\r\n\"c\"")},
	{"a;b=\u00a0\"c\"", "a", list("b", "\u00a0\"c\"")},
	{"a;b=c\\;d", "a", list("b", "c\\", "d", "")},
	{"a;b=\x00\xff", "a", list("b", "\x00\xff")},
	// Values in quotes.
	{"a;b=\"\"", "a", list("b", "")},
	{"a;b= \t\"c\"", "a", list("b", "c")},
	{"a;b=\" C\t\"", "a", list("b", " C\t")}, // blanks in quotes stay
	{"a;b=\"c;d=e;\"", "a", list("b", "c;d=e;")},
	{"a;b=\"c\\\"d\\\\\"", "a", list("b", "c\"d\\")},
	{"a;b=\"\\c\\;\\ \\\xff\"", "a", list("b", "c; \xff")},
	{"a;b=\"\r\n\x00\"", "a", list("b", "\r\n\x00")},
	{"a;b=\"c\" d;e", "a", list("b", "c", "e", "")}, // what is behind goes
	{"a;b=\"c\"d=\"e;f\"=g", "a", list("b", "c", "f\"", "g")},
	{"a;b=\"\"\"c;d\"", "a", list("b", "", "d\"", "")},
	{"a;b=\"c\"\\;d", "a", list("b", "c", "d", "")},
	{"a;b=\"c\";d=\"e\";f=\"g\"", "a", list("b", "c", "d", "e", "f", "g")},
}

// 13.1: values in whose last parameter a `"` is open up to the end.
var open = []value{
	{"a;b=\"", "a", list("b", "")},
	{"a;b=\"c", "a", list("b", "c")},
	{"a;b=\"c;d=e ", "a", list("b", "c;d=e ")},
	{"a;b=\"c\\\"", "a", list("b", "c\"")},
	{"a;b=\"c\\\\", "a", list("b", "c\\")},
	{"a;b=\"c\\", "a", list("b", "c\\")}, // a `\` ahead of no byte is one
	{"a;b=\"\\", "a", list("b", "\\")},
	{"a;=\"c;d=e", "a", nil},
	{"a;b=\"c\";d=\"e;f", "a", list("b", "c", "d", "e;f")},
}

func TestValues(t *testing.T) {
	for _, c := range append(slices.Clone(closed), open...) {
		holdValues(t, c.s, c.word, c.params)
		holdAllValues(t, c.s)
	}
}

// 13.1: what stands behind a `;` is told by itself, whatever is ahead of it.
func TestValuesOfTwo(t *testing.T) {
	for _, c := range closed {
		for _, d := range append(slices.Clone(closed), open...) {
			if c.s == "" || d.word == "" || strings.ContainsAny(d.word, "=\"") {
				continue
			}
			both := append(append(slices.Clone(c.params), api.Field{Name: d.word}), d.params...)
			holdValues(t, c.s+";"+d.s, c.word, both)
			holdValues(t, c.s+"; ;=;\t"+d.s, c.word, both)
		}
	}
}

// 13.1: values within other bytes.
func TestValuesWithin(t *testing.T) {
	around := []string{"", " ", "x", "=", ";", "\"", "\\", "\"\\", "x;y=", "x;y=\"", "\";", ";y=\"z\"", "\xc3", "\r\n"}
	for _, c := range append(slices.Clone(closed), open...) {
		for _, ahead := range around {
			for _, behind := range around {
				holdAllValues(t, ahead+c.s+behind)
			}
		}
	}
}

// 13.1: what each byte is in a word, in a name, in a value, in quotes and behind them.
func TestValuesEachByte(t *testing.T) {
	for c := range 256 {
		b := string([]byte{byte(c)})
		small := b
		if c >= 'A' && c <= 'Z' {
			small = string([]byte{byte(c + 32)})
		}
		if c != ';' {
			holdValues(t, "x"+b+"y;z", "x"+small+"y", list("z", ""))
			holdValues(t, "a;b=x"+b+"y;z", "a", list("b", "x"+b+"y", "z", ""))
			holdValues(t, "a;b=\"x\""+b+"y;z", "a", list("b", "x", "z", ""))
		}
		if c != ';' && c != '=' {
			holdValues(t, "a;x"+b+"y=z", "a", list("x"+small+"y", "z"))
		}
		if c != '"' && c != '\\' {
			holdValues(t, "a;b=\"x"+b+"y\";z", "a", list("b", "x"+b+"y", "z", ""))
		}
		holdValues(t, "a;b=\"x\\"+b+"y\";z", "a", list("b", "x"+b+"y", "z", ""))
		if c == ';' || c == '=' || c == '"' {
			continue
		}
		if c == ' ' || c == '\t' {
			b, small = "", ""
		}
		holdValues(t, b+"x"+b+";"+b+"y"+b+"="+b+"z"+b, small+"x"+small, list(small+"y"+small, b+"z"+b))
	}
}

// 13.1: each byte at each place of a value, and all pieces of it.
func TestValuesEachPlace(t *testing.T) {
	const s = " A/b ; c = \"d;\\\"\\\\\" e=\"f;G=h i ; =\"j;k\";l;m=\"n"
	eachTurned(s, func(s string) { holdAllValues(t, s) })
}

// 13.1: all short rows of what counts.
func TestValuesEachShort(t *testing.T) {
	check := func(s string) { holdAllValues(t, s) }
	eachRow("", []string{";", "=", "\"", "\\", " ", "A"}, 5, check)
	eachRow(";a=\"", []string{";", "=", "\"", "\\", " ", "A"}, 5, check)
	eachRow("", []string{";b=", "\"", ";", "\t", "c"}, 6, check)
}

// 13.1: rows of any pieces.
func TestValuesAny(t *testing.T) {
	r := rand.New(rand.NewSource(13))
	pieces := []string{";", "=", "\"", "\\", " ", "\t", "A", "text/plain", "; Charset=", ";b=\"", "\";", "\\\"", "\r\n ", "\xff", "\u00c4", "\x00"}
	for range 100000 {
		holdAllValues(t, anyRow(r, pieces, 20))
	}
}

// 13.1: what the library tells of types is read back.
func TestValuesOfTold(t *testing.T) {
	r := rand.New(rand.NewSource(14))
	const signs = "aZ09 ;=\"\\(),/:<>?@[]\t.-_'*%"
	for range 20000 {
		params := map[string]string{}
		var want []api.Field
		for i := range r.Intn(5) {
			var b strings.Builder
			for range r.Intn(20) {
				b.WriteByte(signs[r.Intn(len(signs))])
			}
			name := fmt.Sprint("name", i)
			params[name] = b.String()
			want = append(want, api.Field{Name: name, Value: b.String()})
		}
		told := mime.FormatMediaType("Application/X-Some", params)
		if told == "" {
			t.Fatalf("the library does not tell %q", params)
		}
		holdValues(t, told, "application/x-some", want)
	}
}

// 13.1: every call ends soon (R1), of long values and of many parameters.
func TestValuesGreat(t *testing.T) {
	const n = 1 << 18
	long := strings.Repeat("x", n)
	for _, s := range []string{";", "=;", "; \t=", ";=\"\\\"\"", ";=;"} {
		holdValues(t, "a;"+strings.Repeat(s, n), "a", nil)
	}
	holdValues(t, long, long, nil)
	holdValues(t, strings.Repeat("X", n), long, nil)
	holdValues(t, strings.Repeat(" ", n), "", nil)
	holdValues(t, long+";"+long+"="+long, long, list(long, long))
	holdValues(t, "a;b=\""+long, "a", list("b", long))
	holdValues(t, "a;b=\""+strings.Repeat("\\\\", n)+"\"", "a", list("b", strings.Repeat("\\", n)))
	holdValues(t, "a;b=\""+strings.Repeat(";", n), "a", list("b", strings.Repeat(";", n)))
	holdValues(t, "a;b=\"c\""+strings.Repeat("\"", n)+";d", "a", list("b", "c", "d", ""))
	holdValues(t, "a;b="+strings.Repeat("=", n), "a", list("b", strings.Repeat("=", n)))
	holdValues(t, "a"+strings.Repeat(";b=c", n), "a", slices.Repeat(list("b", "c"), n))
	holdValues(t, "a"+strings.Repeat(";b=\"c\"", n), "a", slices.Repeat(list("b", "c"), n))
	holdValues(t, "a"+strings.Repeat(";b", n), "a", slices.Repeat(list("b", ""), n))
}
