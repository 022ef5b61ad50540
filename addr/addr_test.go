package addr

import (
	"fmt"
	"go/ast"
	"go/parser"
	"go/token"
	"math/rand"
	"net/mail"
	"regexp"
	"slices"
	"strings"
	"testing"
	"unsafe"

	"pillarbox/api"
	"pillarbox/word"
)

// list is the addresses of these names, boxes and hosts, three by three.
func list(parts ...string) []api.Addr {
	var l []api.Addr
	for at := 0; at < len(parts); at += 3 {
		l = append(l, api.Addr{Name: parts[at], Box: parts[at+1], Host: parts[at+2]})
	}
	return l
}

// shown is the beginning of what a test speaks of.
func shown(v any) string {
	s := fmt.Sprintf("%q", v)
	return s[:min(len(s), 300)]
}

var (
	slash = regexp.MustCompile(`(?s)\\(.)`)
	quote = regexp.MustCompile(`(?s)^"((?:\\.|[^"\\])*\\?)(?:"|$)`)
	sharp = regexp.MustCompile(`^<([^>]*)>?`)
	round = regexp.MustCompile(`(?s)\\.|[()]`)
	plain = regexp.MustCompile(`^[^"(<:,; \t\r\n]+`)
	blank = regexp.MustCompile(`[ \t]`)
	place = regexp.MustCompile(`(?s)^(?:(.*)@)?(.*)$`)
)

// piece is one of what a text is made of: its kind by a letter (w: a word, a: an angle, else the byte itself), and its text.
type piece struct {
	kind byte
	text string
}

// remark is how long the remark at the beginning of s is.
func remark(s string) int {
	open, n := 0, 0
	for n < len(s) {
		at := round.FindStringIndex(s[n:])
		if at == nil {
			break
		}
		switch s[n+at[0]] {
		case '(':
			open++
		case ')':
			open--
		}
		n += at[1]
		if open == 0 {
			return n
		}
	}
	return len(s)
}

// pieces cuts s by patterns, without its remarks and its blanks.
func pieces(s string) []piece {
	var l []piece
	for s != "" {
		n := 1
		if m := quote.FindStringSubmatch(s); m != nil {
			l, n = append(l, piece{'w', slash.ReplaceAllString(m[1], "$1")}), len(m[0])
		} else if m := sharp.FindStringSubmatch(s); m != nil {
			l, n = append(l, piece{'a', blank.ReplaceAllString(m[1], "")}), len(m[0])
		} else if m := plain.FindString(s); m != "" {
			l, n = append(l, piece{'w', m}), len(m)
		} else if s[0] == '(' {
			n = remark(s)
		} else if strings.IndexByte(":,;", s[0]) >= 0 {
			l = append(l, piece{s[0], ""})
		}
		s = s[n:]
	}
	return l
}

// one is the address that pieces tell among which none ends one; false where they tell none.
func one(l []piece) (api.Addr, bool) {
	var words, angles []string
	for _, p := range l {
		switch p.kind {
		case ':':
			words, angles = nil, nil
		case 'w':
			words = append(words, p.text)
		case 'a':
			angles = append(angles, p.text)
		}
	}
	var a api.Addr
	where := strings.Join(words, "")
	if len(angles) > 0 {
		where = angles[len(angles)-1]
		a.Name = word.Decode(strings.Join(words, " "))
	}
	if !strings.Contains(where, "@") {
		where += "@"
	}
	m := place.FindStringSubmatch(where)
	a.Box, a.Host = m[1], m[2]
	return a, a.Box+a.Host != ""
}

// wanted is what List must tell: it cuts s into pieces, and those into addresses after.
func wanted(s string) []api.Addr {
	var told []api.Addr
	var l []piece
	for _, p := range append(pieces(s), piece{',', ""}) {
		if p.kind != ',' && p.kind != ';' {
			l = append(l, p)
			continue
		}
		if a, ok := one(l); ok {
			told = append(told, a)
		}
		l = nil
	}
	return told
}

// hold holds List against what it must tell.
func hold(t *testing.T, s string, want []api.Addr) {
	t.Helper()
	if got := List(s); !slices.Equal(got, want) {
		t.Fatalf("List(%s) is %s, want %s", shown(s), shown(got), shown(want))
	}
}

func holdAll(t *testing.T, s string) {
	t.Helper()
	hold(t, s, wanted(s))
}

// 12.1: texts of which nothing is left open, and what they tell.
var closed = []struct {
	s    string
	want []api.Addr
}{
	{"A B <a@b>, c@d", list("A B", "a", "b", "", "c", "d")}, // the chapter's example
	{"", nil},
	{" \t\r\n", nil},
	{"a@b", list("", "a", "b")},
	{"  a@b\r\n ", list("", "a", "b")},
	{"Mary Smith <mary@x.test>, jdoe@example.org, Who? <one@y.test>", list("Mary Smith", "mary", "x.test", "", "jdoe", "example.org", "Who?", "one", "y.test")},
	{"<boss@nil.test>, \"Giant; \\\"Big\\\" Box\" <sysservices@example.net>", list("", "boss", "nil.test", "Giant; \"Big\" Box", "sysservices", "example.net")},
	{"A Group:Ed Jones <joe@where.test>,joe@where.test,John <jdoe@one.test>;", list("Ed Jones", "joe", "where.test", "", "joe", "where.test", "John", "jdoe", "one.test")},
	{"Undisclosed recipients:;", nil},
	{"Pete(A nice \\) chap) <pete(his account)@silly.test(his host)>", list("Pete", "pete(hisaccount)", "silly.test(hishost)")},
	{"John <jdoe@one.test> (my dear friend)", list("John", "jdoe", "one.test")},
	// Words in quotes.
	{"\"a b\"@c", list("", "a b", "c")},
	{"\"a\\\"b\"@c", list("", "a\"b", "c")},
	{"\"a\\\\\"@c", list("", "a\\", "c")},
	{"\"a\\b\\ \\,\"@c", list("", "ab ,", "c")},
	{"\"(<:,;>)\" <a@b>", list("(<:,;>)", "a", "b")},
	{"\"a\r\n\tb\" <a@b>", list("a\r\n\tb", "a", "b")}, // bytes in quotes stay as they are
	{"\"\" <a@b>", list("", "a", "b")},
	{"\"\" \"\" <a@b>", list(" ", "a", "b")}, // words without a text are words
	{"A \"\" B <a@b>", list("A  B", "a", "b")},
	{"\"\" A <a@b>", list(" A", "a", "b")},
	{"A \"\" <a@b>", list("A ", "a", "b")},
	{"\" \" <a@b>", list(" ", "a", "b")},
	{"\"\"", nil},
	{"\"\"@\"\"", nil},
	{"\"a@b\"", list("", "a", "b")}, // the `@` counts wherever it stands
	{"\"a@b\"@c", list("", "a@b", "c")},
	{"\"a\"\"b\"c\"d\"@e", list("", "abcd", "e")},
	{"\"a\"\"b\"c\"d\" <e@f>", list("a b c d", "e", "f")},
	{"\\\"a\\\\\" <b@c>", list("\\ a\\", "b", "c")}, // out of quotes a `\` is a byte as others are
	// Remarks.
	{"a(b)c@d", list("", "ac", "d")},
	{"a(b)c <d@e>", list("a c", "d", "e")},
	{"(a)", nil},
	{"(a@b)", nil},
	{"(a@b) c@d (e@f)", list("", "c", "d")},
	{"(a, b; c: <d@e> \")f@g", list("", "f", "g")}, // a `"` in a remark begins nothing
	{"(a (b) (c (d) ) ) e@f", list("", "e", "f")},
	{"(\\)) a@b", list("", "a", "b")},
	{"(\\() a@b", list("", "a", "b")},
	{"(\\\\) a@b", list("", "a", "b")},
	{"((\\)) ) a@b", list("", "a", "b")},
	{"() a@b", list("", "a", "b")},
	{"a)b@c", list("", "a)b", "c")},
	{"() ) a@b", list("", ")a", "b")},
	{"\"(\" a@b", list("", "(a", "b")},
	// Angles.
	{"<a>", list("", "a", "")},
	{"<@b>", list("", "", "b")},
	{"<a@b@c>", list("", "a@b", "c")},
	{"<a@>", list("", "a", "")},
	{"<@@>", list("", "@", "")},
	{"<@>", nil},
	{"<>", nil},
	{"A <>", nil}, // an angle without a text is one, so the words are a name
	{"A@b <>", nil},
	{"A <a@b> <>", nil}, // which takes the place of one ahead of it
	{"A <> <a@b>", list("A", "a", "b")},
	{"A <a@b> B <c@d> C", list("A B C", "c", "d")},
	{"A<a@b>B<c>", list("A B", "c", "")},
	{"<a@b> A", list("A", "a", "b")},
	{"< \t a \t@\tb c >", list("", "a", "bc")},
	{"<a\r\n@b>", list("", "a\r\n", "b")}, // blanks and tabs alone go
	{"< \t>", nil},
	{"<\"a b\"@c>", list("", "\"ab\"", "c")}, // in an angle nothing begins and nothing is parted
	{"<\"a\\>b@c", list("b@c", "\"a\\", "")},
	{"<a,b;c:d<e(f@g>", list("", "a,b;c:d<e(f", "g")},
	{"x>y@z", list("", "x>y", "z")},
	{"<a@b>> ", list(">", "a", "b")},
	{"a@b <c@d>", list("a@b", "c", "d")},
	{"a @ b <c@d>", list("a @ b", "c", "d")},
	// Names of encoded words.
	{"=?utf-8?Q?=C3=A4?= <a@b>", list("\u00e4", "a", "b")},
	{"=?utf-8?Q?a?=\r\n =?utf-8?Q?_b?= c <a@b>", list("a b c", "a", "b")},
	{"=?utf-8?Q?a?= \"\" =?utf-8?Q?b?= <a@b>", list("ab", "a", "b")}, // two blanks between
	{"=?utf-8?Q?a?=\"=?utf-8?Q?b?=\"(c)=?utf-8?Q?d?= <a@b>", list("abd", "a", "b")},
	{"\"=?utf-8?Q?a?=\" <a@b>", list("a", "a", "b")},
	{"\"=?utf-8?Q?\\=3D=3C?=\" <a@b>", list("=<", "a", "b")},
	{"=?utf-8?Q?a?= <=?utf-8?Q?b?=>", list("a", "=?utf-8?Q?b?=", "")},
	{"=?utf-8?Q?a?=@b", list("", "=?utf-8?Q?a?=", "b")}, // not without an angle
	{"=?utf-8?Q?=2C=3C=40=28=22?= <a@b>", list(",<@(\"", "a", "b")},
	{"=?utf-8?Q?a,b?= <c@d>", list("", "=?utf-8?Q?a", "", "b?=", "c", "d")},
	{"=?koi8-r?Q?a?= <a@b>", list("=?koi8-r?Q?a?=", "a", "b")},
	{"=?utf-8?B?w6Q=?=(x)<a@b>", list("\u00e4", "a", "b")},
	// Without an angle.
	{"a", list("", "a", "")},
	{"A B", list("", "AB", "")},
	{"@", nil},
	{"@ @", list("", "@", "")},
	{"@b", list("", "", "b")},
	{"a@", list("", "a", "")},
	{"a@b@c", list("", "a@b", "c")},
	{"a . b @ c\t.\r\nd", list("", "a.b", "c.d")},
	{"\u00e4@\u00f6", list("", "\u00e4", "\u00f6")},
	{"\xc3@\xa4\x00", list("", "\xc3", "\xa4\x00")},
	{"a\u00a0b\v\f@c", list("", "a\u00a0b\v\f", "c")}, // no others part words
	{"a\rb\nc@d", list("", "abc", "d")},
	{"a\rb\nc <d@e>", list("a b c", "d", "e")},
	// What ends addresses, and what makes gathered things go.
	{",", nil},
	{";", nil},
	{":", nil},
	{",;: ,;:", nil},
	{",a@b;", list("", "a", "b")},
	{"a,b;c", list("", "a", "", "", "b", "", "", "c", "")},
	{"A <a@b>;B <c@d>", list("A", "a", "b", "B", "c", "d")},
	{"A,<a@b>", list("", "A", "", "", "a", "b")}, // words go with what they told
	{"<a@b>,A", list("", "a", "b", "", "A", "")}, // and so does an angle
	{"A <>,b@c", list("", "b", "c")},
	{"A:<a@b>", list("", "a", "b")},
	{"<a@b>:A", list("", "A", "")},
	{"<a@b>:", nil},
	{"A <a@b> B : C", list("", "C", "")},
	{"a:b:c@d", list("", "c", "d")},
	{"a@b:", nil},
	{"a@b,c:", list("", "a", "b")},
	{"a@b:,c@d", list("", "c", "d")},
	{"g: a@b, c@d; e@f", list("", "a", "b", "", "c", "d", "", "e", "f")},
	{"a@b,(c,d@e,)", list("", "a", "b")},
	{"a@b, , (x), \"\", <>, c@d", list("", "a", "b", "", "c", "d")},
	{"a@b,a@b", list("", "a", "b", "", "a", "b")},
}

// 12.1: texts of which something is left open, up to the end.
var open = []struct {
	s    string
	want []api.Addr
}{
	{"\"", nil},
	{"\"q", list("", "q", "")},
	{"\"a@b, c", list("", "a", "b, c")},
	{"\"a\\\"", list("", "a\"", "")},
	{"\"a\\\\", list("", "a\\", "")},
	{"\"a\\", list("", "a\\", "")}, // a `\` ahead of no byte is one
	{"\"\\", list("", "\\", "")},
	{"<a@b> \"c <d@e>", list("c <d@e>", "a", "b")},
	{"<a@b> \"", list("", "a", "b")},
	{"<a@b> c \"", list("c ", "a", "b")},
	{"<a@b> c \"\\", list("c \\", "a", "b")},
	{"(", nil},
	{"(a@b", nil},
	{"((a) b@c", nil},
	{"(a\\) b@c", nil},
	{"(a\\", nil},
	{"a@b (c", list("", "a", "b")},
	{"a@b, c(d", list("", "a", "b", "", "c", "")},
	{"A <a@b> (", list("A", "a", "b")},
	{"<", nil},
	{"A <", nil},
	{"<a@b", list("", "a", "b")},
	{"A <a, b", list("A", "a,b", "")},
	{"A <a@b> <", nil},
	{"A <a@b> <c", list("A", "c", "")},
	{"<a\\", list("", "a\\", "")},
	{"a \\", list("", "a\\", "")},
}

func TestList(t *testing.T) {
	for _, c := range append(slices.Clone(closed), open...) {
		hold(t, c.s, c.want)
		holdAll(t, c.s)
	}
}

// 12.1: each address stands by itself, whatever is told ahead of it.
func TestListOfTwo(t *testing.T) {
	for _, c := range closed {
		for _, d := range append(slices.Clone(closed), open...) {
			both := append(slices.Clone(c.want), d.want...)
			for _, end := range []string{",", ";", " , ", ";;", "\r\n,", "(x),"} {
				hold(t, c.s+end+d.s, both)
			}
		}
	}
}

// 12.1: texts within others.
func TestListWithin(t *testing.T) {
	ends := []string{"", " ", "x", "@", "\"", "\"\\", "\\", "(", "(\\", ")", "<", ">", ":", ",", ";", "A <", "> A", "<y@z>", "(<\"", "\">)", "\xc3", "=?utf-8?Q?a?= "}
	for _, c := range append(slices.Clone(closed), open...) {
		for _, ahead := range ends {
			for _, behind := range ends {
				holdAll(t, ahead+c.s+behind)
			}
		}
	}
}

// without is s without some bytes.
func without(s, bytes string) string {
	return strings.Map(func(r rune) rune {
		if strings.ContainsRune(bytes, r) {
			return -1
		}
		return r
	}, s)
}

// 12.1: what each byte is in quotes, behind a `\` there, in an angle, and in a remark.
func TestListEachByteWithin(t *testing.T) {
	for c := range 256 {
		b := string([]byte{byte(c)})
		hold(t, "\"x\\"+b+"y\" <a@b>", list("x"+b+"y", "a", "b"))
		hold(t, "(x\\"+b+"y) a@b", list("", "a", "b"))
		if c != '"' && c != '\\' {
			hold(t, "\"x"+b+"y\" <a@b>", list("x"+b+"y", "a", "b"))
		}
		if c != '(' && c != ')' && c != '\\' {
			hold(t, "(x"+b+"y) a@b", list("", "a", "b"))
		}
		if c == '>' || c == '@' {
			continue
		}
		want := b
		if c == ' ' || c == '\t' {
			want = ""
		}
		hold(t, "A <x"+b+"y@"+b+"z>", list("A", "x"+want+"y", want+"z"))
	}
}

// 12.1: what each byte is between words and in them.
func TestListEachByteOutside(t *testing.T) {
	for c := range 256 {
		b := string([]byte{byte(c)})
		with, alone := "A x"+b+"y <a@b>", "x"+b+"y@z"
		switch c {
		case '"', '(', '<':
			continue // what they begin the tables say
		case ' ', '\t', '\r', '\n':
			hold(t, with, list("A x y", "a", "b"))
			hold(t, alone, list("", "xy", "z"))
		case ',', ';':
			hold(t, with, list("", "Ax", "", "y", "a", "b"))
			hold(t, alone, list("", "x", "", "", "y", "z"))
		case ':':
			hold(t, with, list("y", "a", "b"))
			hold(t, alone, list("", "y", "z"))
		default:
			hold(t, with, list("A x"+b+"y", "a", "b"))
			if c != '@' {
				hold(t, alone, list("", "x"+b+"y", "z"))
			}
			hold(t, "A "+b+" <a@b>", list("A "+b, "a", "b"))
			hold(t, b+"A <a@b>"+b, list(b+"A "+b, "a", "b"))
		}
	}
}

// 12.1: each two bytes, in each state.
func TestListEachTwoBytes(t *testing.T) {
	around := []struct{ ahead, behind string }{{"", "a@b"}, {"A ", " <a@b>"}, {"\"x", "\" y"}, {"(x", ") y@z"}, {"<x", "> y"}, {"<a@b>", ""}}
	for c := range 256 {
		for d := range 256 {
			pair := string([]byte{byte(c), byte(d)})
			for _, a := range around {
				holdAll(t, a.ahead+pair+a.behind)
			}
		}
	}
}

// 12.1: each byte at each place of some addresses.
func TestListEachByte(t *testing.T) {
	const s = "g: \"A, \\\"B\" C(d (\\)e) f)\r\n =?utf-8?Q?=C3=A4?= <a @b>;\tc.d(e)@f <>,\"g"
	for at := range len(s) + 1 {
		for c := range 256 {
			put := s[:at] + string([]byte{byte(c)})
			holdAll(t, put+s[at:])
			if at < len(s) {
				holdAll(t, put+s[at+1:])
			}
		}
		for to := at; to <= len(s); to++ {
			holdAll(t, s[at:to])
			holdAll(t, s[:at]+s[to:])
		}
	}
}

// 12.1: all short rows of what counts.
func TestListEachShort(t *testing.T) {
	var each func(s string, signs []string, left int)
	each = func(s string, signs []string, left int) {
		holdAll(t, s)
		if left == 0 {
			return
		}
		for _, sign := range signs {
			each(s+sign, signs, left-1)
		}
	}
	each("", []string{"\"", "\\", "(", ")", "<", ">", ":", ",", "@", " ", "a"}, 4)
	each("", []string{"\"", "\\", "a", ","}, 7)
	each("", []string{"(", ")", "\\", "a"}, 7)
	each("", []string{"<", ">", "@", " ", "a"}, 6)
	each("", []string{"<a>", ":", ";", "b", "\"\""}, 6)
	each("", []string{"\"", "(", "<", ">", ")"}, 6)
}

// 12.1: rows of any pieces.
func TestListAny(t *testing.T) {
	r := rand.New(rand.NewSource(12))
	signs := []string{
		"a", "b.c", "@", "@d", "a@b", "A ", " ", "\t", "\r\n ", "\"", "\\", "\\\"", "\"A, B\"", "\"\"", "(", ")", "(x)", "\\)", "<", ">", "<a@b>", "< a@ b >", "<>",
		":", ",", ";", "g:", ", ", "=?utf-8?Q?=C3=A4?=", "=?utf-8?B?YQ?= ", "\xc3", "\u00e4", "\x00",
	}
	for range 200000 {
		var b strings.Builder
		for range r.Intn(20) {
			b.WriteString(signs[r.Intn(len(signs))])
		}
		holdAll(t, b.String())
	}
}

// 12.1: what the library tells of addresses is read back.
func TestListOfTold(t *testing.T) {
	r := rand.New(rand.NewSource(13))
	points := []rune{'a', 'Z', '0', ' ', ',', ';', ':', '<', '>', '(', ')', '"', '\\', '@', '.', '=', '?', '_', 0xe4, 0x20ac, 0x1f600}
	for range 20000 {
		var told []string
		var want []api.Addr
		for range r.Intn(5) {
			name := []rune{'N'}
			for range r.Intn(30) {
				name = append(name, points[r.Intn(len(points))])
			}
			a := api.Addr{Name: string(name), Box: fmt.Sprint("box.", r.Intn(1000)), Host: fmt.Sprint("host", r.Intn(1000), ".test")}
			m := mail.Address{Name: a.Name, Address: a.Box + "@" + a.Host}
			told, want = append(told, m.String()), append(want, a)
		}
		hold(t, strings.Join(told, ", "), want)
		hold(t, "Group: "+strings.Join(told, ",\r\n ")+";", want)
	}
}

// 12.1: every call ends soon (R1), of long texts and of many addresses.
func TestListGreat(t *testing.T) {
	const n = 1 << 18
	long := strings.Repeat("x", n)
	for _, sign := range []string{" ", "\r", ":", ",", ";", "<>", "(", ")(", "()", "\"\"", "@,", "<@>", "(\\", ":;"} {
		s := strings.Repeat(sign, n)
		if sign == ")(" {
			s = "(" + s // so that no `)` is a word
		}
		hold(t, s, nil)
		holdAll(t, "a@b,"+s+",c@d")
	}
	hold(t, strings.Repeat("<", n+1), list("", strings.Repeat("<", n), ""))
	hold(t, long, list("", long, ""))
	hold(t, long+"@"+long, list("", long, long))
	hold(t, "\""+long+"\" <"+long+"@"+long+">", list(long, long, long))
	hold(t, "("+long+") a@b ("+long, list("", "a", "b"))
	hold(t, strings.Repeat("(", n)+strings.Repeat(")", n)+"a@b", list("", "a", "b"))
	hold(t, strings.Repeat("(", n)+strings.Repeat(")", n-1)+"a@b", nil)
	hold(t, strings.Repeat("a ", n)+"@b", list("", strings.Repeat("a", n), "b"))
	hold(t, strings.Repeat("a ", n)+"<c@b>", list(strings.Repeat("a ", n-1)+"a", "c", "b"))
	hold(t, "\""+strings.Repeat("\\\"", n)+"\"", list("", strings.Repeat("\"", n), ""))
	hold(t, strings.Repeat("@", n), list("", strings.Repeat("@", n-1), ""))
	hold(t, strings.Repeat("A <c@d>", n)+"B", list(strings.Repeat("A ", n)+"B", "c", "d"))
	hold(t, strings.Repeat("A <c@d>:", n)+"a@b", list("", "a", "b"))
	hold(t, strings.Repeat("=?utf-8?Q?a?= ", n)+"<c@b>", list(strings.Repeat("a", n), "c", "b"))
	hold(t, strings.Repeat("A B <a@b>, ", n), slices.Repeat(list("A B", "a", "b"), n))
	hold(t, strings.Repeat("a;", n), slices.Repeat(list("", "a", ""), n))
}

// within says whether the bytes of a stand in those of b.
func within(a, b string) bool {
	from := uintptr(unsafe.Pointer(unsafe.StringData(a)))
	to := uintptr(unsafe.Pointer(unsafe.StringData(b)))
	return a != "" && b != "" && to <= from && from < to+uintptr(len(b))
}

// R3: what is told is new memory, spare room too; what is handed in stays as it is; R1: it is told again.
func TestNewMemory(t *testing.T) {
	for _, c := range append(slices.Clone(closed), open...) {
		s := strings.Clone(c.s)
		one, two := List(s), List(s)
		for i, a := range one {
			for _, told := range []string{a.Name, a.Box, a.Host} {
				if within(told, s) || within(told, two[i].Name) || within(told, two[i].Box) || within(told, two[i].Host) {
					t.Errorf("List(%q): %q is there already", c.s, told)
				}
			}
		}
		one = one[:cap(one)]
		for i := range one {
			one[i] = api.Addr{Name: "turned", Box: "turned", Host: "turned"}
		}
		if !slices.Equal(two, c.want) || s != c.s {
			t.Errorf("List(%q): who writes into one turns another", c.s)
		}
		hold(t, s, c.want)
	}
}

// fallsThrough is how many cases of a switch go on into the next one by themselves.
func fallsThrough(s *ast.SwitchStmt) int {
	n := 0
	for _, clause := range s.Body.List {
		for _, stmt := range clause.(*ast.CaseClause).Body {
			if b, ok := stmt.(*ast.BranchStmt); ok && b.Tok == token.FALLTHROUGH {
				n++
			}
		}
	}
	return n
}

// The chapter's way: what is done in a state a switch says, in which some fall through, and nothing else asks for the state.
func TestStatesBySwitch(t *testing.T) {
	file, err := parser.ParseFile(token.NewFileSet(), "addr.go", nil, 0)
	if err != nil {
		t.Fatal(err)
	}
	isState := func(e ast.Expr) bool {
		s, ok := e.(*ast.SelectorExpr)
		return ok && s.Sel.Name == "state"
	}
	switches, asked := 0, 0
	ast.Inspect(file, func(node ast.Node) bool {
		switch n := node.(type) {
		case *ast.SwitchStmt:
			if n.Tag != nil && isState(n.Tag) && fallsThrough(n) > 0 {
				switches++
			}
		case *ast.BinaryExpr:
			if isState(n.X) || isState(n.Y) {
				asked++
			}
		}
		return true
	})
	if switches == 0 || asked != 0 {
		t.Errorf("%d switches over the state fall through; it is held against something at %d places", switches, asked)
	}
}
