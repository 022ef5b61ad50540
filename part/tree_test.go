package part

import (
	"bytes"
	"encoding/base64"
	"fmt"
	"math/rand"
	"mime"
	"mime/multipart"
	"mime/quotedprintable"
	"net/textproto"
	"regexp"
	"slices"
	"strings"
	"testing"

	"pillarbox/api"
	"pillarbox/field"
)

var (
	lineEnd  = regexp.MustCompile(`\r?\n$`)
	oneSlash = regexp.MustCompile(`^[^/]+/[^/]+$`)
)

// mark is a line that parts kids: where it begins, the place behind it, and whether it is an end.
type mark struct {
	at, behind int
	end        bool
}

// marks is all marks of a boundary in the octets of s from at to to.
func marks(s, boundary string, at, to int) []mark {
	var l []mark
	for _, line := range strings.SplitAfter(s[at:to], "\n") {
		said := strings.TrimRight(lineEnd.ReplaceAllString(line, ""), " \t")
		if m := (mark{at, at + len(line), said == "--"+boundary+"--"}); line != "" && (m.end || said == "--"+boundary) {
			l = append(l, m)
		}
		at += len(line)
	}
	return l
}

// wantedKids is where the kids between some marks begin and end.
func wantedKids(s string, l []mark, to int) [][2]int {
	var kids [][2]int
	for i, m := range l {
		if m.end {
			break
		}
		end := to
		if i+1 < len(l) {
			end = l[i+1].at - 1 // byte 10 stands there
			if s[end-1] == '\r' {
				end--
			}
		}
		kids = append(kids, [2]int{m.behind, max(m.behind, end)})
	}
	return kids
}

// unbound is the part of the octets of s from at to to, however many parts are in it; heads is where each of them begins.
func unbound(s string, at, to, within int, heads *[]int) api.Part {
	*heads = append(*heads, at)
	p := api.Part{Type: "text/plain", Enc: "7bit", Head: at, To: to}
	l, body := field.Split(s, at, to)
	p.From = body
	if v, ok := field.First(l, "CONTENT-TYPE"); ok {
		if word, params := wantedValues(v); oneSlash.MatchString(word) {
			p.Type, p.Params = word, params
		}
	}
	if v, ok := field.First(l, "CONTENT-TRANSFER-ENCODING"); ok {
		p.Enc = lower(v)
	}
	if v, ok := field.First(l, "CONTENT-DISPOSITION"); ok {
		word, _ := wantedValues(v)
		p.Attach = word == "attachment"
	}
	at = slices.IndexFunc(p.Params, func(f api.Field) bool { return f.Name == "boundary" })
	if within >= api.MaxIn || at < 0 || p.Params[at].Value == "" || !strings.HasPrefix(p.Type, "multipart/") {
		return p
	}
	for _, k := range wantedKids(s, marks(s, p.Params[at].Value, body, to), to) {
		p.Kids = append(p.Kids, unbound(s, k[0], k[1], within+1, heads))
	}
	return p
}

// prune leaves out the parts of p that begin behind a place.
func prune(p *api.Part, last int) {
	p.Kids = slices.DeleteFunc(p.Kids, func(k api.Part) bool { return k.Head > last })
	for i := range p.Kids {
		prune(&p.Kids[i], last)
	}
}

// wantedTree is what Tree must tell: it reads all parts there are, and leaves out the last ones after.
func wantedTree(s string) api.Part {
	var heads []int
	p := unbound(s, 0, len(s), 0, &heads)
	slices.Sort(heads)
	prune(&p, heads[min(len(heads), api.MaxParts)-1])
	return p
}

// same says whether two parts are one in all that they tell.
func same(a, b api.Part) bool {
	return a.Type == b.Type && slices.Equal(a.Params, b.Params) && a.Enc == b.Enc && a.Attach == b.Attach &&
		a.Head == b.Head && a.From == b.From && a.To == b.To && slices.EqualFunc(a.Kids, b.Kids, same)
}

// hold holds Tree against what it must tell.
func hold(t *testing.T, s string, want api.Part) api.Part {
	t.Helper()
	got := Tree(s)
	if !same(got, want) {
		t.Fatalf("Tree(%s) is %s, want %s", shown(s), fmt.Sprintf("%.2000s", fmt.Sprintf("%+v", got)), fmt.Sprintf("%.2000s", fmt.Sprintf("%+v", want)))
	}
	return got
}

func holdAll(t *testing.T, s string) api.Part {
	t.Helper()
	return hold(t, s, wantedTree(s))
}

// 13.2: messages without headers, and where a body is.
func TestTreePlaces(t *testing.T) {
	for _, c := range []struct {
		s    string
		from int
	}{
		{"", 0}, {"\n", 1}, {"\r\n", 2}, {"body", 4}, {"\nbody", 1}, {"\r\nbody\r\n", 2},
		{"A: b", 4}, {"A: b\n", 5}, {"A: b\n\n", 6}, {"A: b\r\n\r\nbody", 8}, {"A: b\n c\n\nd\n\ne", 9}, {"none\n\nbody", 6}, {"\xff\x00\n\n", 4},
	} {
		hold(t, c.s, api.Part{Type: "text/plain", Enc: "7bit", From: c.from, To: len(c.s)})
		holdAll(t, c.s)
	}
	s := "Content-Type: multipart/x; boundary=z\r\n\r\npre\r\n--z\r\nA: b\r\n\r\none\r\n--z\r\n\r\n--z--\r\npost"
	hold(t, s, api.Part{Type: "multipart/x", Params: list("boundary", "z"), Enc: "7bit", Head: 0, From: 41, To: 82, Kids: []api.Part{
		{Type: "text/plain", Enc: "7bit", Head: 51, From: 59, To: 62},
		{Type: "text/plain", Enc: "7bit", Head: 69, From: 69, To: 69},
	}})
}

// 13.2: headers, and what a part is by them.
var headers = []struct {
	s      string
	kind   string
	params []api.Field
	enc    string
	attach bool
}{
	{"", "text/plain", nil, "7bit", false},
	{"Subject: text/html; a=b\n", "text/plain", nil, "7bit", false},
	// Content-Type.
	{"Content-Type: text/html\n", "text/html", nil, "7bit", false},
	{"content-TYPE:Text/HTML ; Charset = \"X;y\" ; b\n", "text/html", list("charset", "X;y", "b", ""), "7bit", false},
	{"Content-Type: text/html;\r\n\tcharset=x;\r\n b=c\r\n", "text/html", list("charset", "x", "b", "c"), "7bit", false},
	{"Content-Type: a/b; c=1; c=2\n", "a/b", list("c", "1", "c", "2"), "7bit", false},
	{"Content-Type: a/b\nContent-Type: c/d\n", "a/b", nil, "7bit", false}, // the first one counts
	{"Content-Type: a\nContent-Type: c/d\n", "text/plain", nil, "7bit", false},
	{"Content-Type: text/plain; charset=x\n", "text/plain", list("charset", "x"), "7bit", false},
	{"Content-Type: a b/c\td\n", "a b/c\td", nil, "7bit", false},
	{"Content-Type: a / b\n", "a / b", nil, "7bit", false}, // a blank is something
	{"Content-Type: a/ \t; c=d\n", "text/plain", nil, "7bit", false},
	{"Content-Type: / ;c=d\n", "text/plain", nil, "7bit", false},
	{"Content-Type: /\n", "text/plain", nil, "7bit", false},
	{"Content-Type: //\n", "text/plain", nil, "7bit", false},
	{"Content-Type: a/\n", "text/plain", nil, "7bit", false},
	{"Content-Type: /b\n", "text/plain", nil, "7bit", false},
	{"Content-Type: a/b/\n", "text/plain", nil, "7bit", false},
	{"Content-Type: /a/b\n", "text/plain", nil, "7bit", false},
	{"Content-Type: a//b\n", "text/plain", nil, "7bit", false},
	{"Content-Type: a/b/c; d=e\n", "text/plain", nil, "7bit", false},
	{"Content-Type: a; b=c/d\n", "text/plain", nil, "7bit", false},
	{"Content-Type: a; b=c\n", "text/plain", nil, "7bit", false},
	{"Content-Type: ; b=c\n", "text/plain", nil, "7bit", false},
	{"Content-Type:\n", "text/plain", nil, "7bit", false},
	{"Content-Type: a/b; c=d/e\n", "a/b", list("c", "d/e"), "7bit", false},
	{"Content-Type: \xff/\u00c4; \xc3=\x00\n", "\xff/\u00c4", list("\xc3", "\x00"), "7bit", false},
	{"Content-Type : a/b\n", "text/plain", nil, "7bit", false}, // no header (10)
	{"Content-Types: a/b\nXContent-Type: a/b\n", "text/plain", nil, "7bit", false},
	// Content-Transfer-Encoding.
	{"Content-Transfer-Encoding: base64\n", "text/plain", nil, "base64", false},
	{"CONTENT-transfer-ENCODING:\t Quoted-PRINTABLE \t\n", "text/plain", nil, "quoted-printable", false},
	{"Content-Transfer-Encoding: 8BIT\n", "text/plain", nil, "8bit", false},
	{"Content-Transfer-Encoding: base64; A=B\n", "text/plain", nil, "base64; a=b", false}, // no word is taken of it
	{"Content-Transfer-Encoding: \"Base64\" (X) Y\n", "text/plain", nil, "\"base64\" (x) y", false},
	{"Content-Transfer-Encoding:\n", "text/plain", nil, "", false}, // the header is there
	{"Content-Transfer-Encoding: \t\n", "text/plain", nil, "", false},
	{"Content-Transfer-Encoding: x\nContent-Transfer-Encoding: y\n", "text/plain", nil, "x", false},
	{"Content-Transfer-Encoding: BASE64\r\r\n", "text/plain", nil, "base64\r", false},
	{"Content-Transfer-Encoding: \u00c4\xff\n", "text/plain", nil, "\u00c4\xff", false},
	{"Content-Encoding: base64\n", "text/plain", nil, "7bit", false},
	// Content-Disposition.
	{"Content-Disposition: attachment\n", "text/plain", nil, "7bit", true},
	{"content-disposition: \t ATTachment\t ; filename=\"inline\"\n", "text/plain", nil, "7bit", true},
	{"Content-Disposition: attachment;\n", "text/plain", nil, "7bit", true},
	{"Content-Disposition: inline\n", "text/plain", nil, "7bit", false},
	{"Content-Disposition: inline; attachment\n", "text/plain", nil, "7bit", false},
	{"Content-Disposition: ;attachment\n", "text/plain", nil, "7bit", false},
	{"Content-Disposition: \"attachment\"\n", "text/plain", nil, "7bit", false},
	{"Content-Disposition: attachments\n", "text/plain", nil, "7bit", false},
	{"Content-Disposition: attach\n", "text/plain", nil, "7bit", false},
	{"Content-Disposition: an attachment\n", "text/plain", nil, "7bit", false},
	{"Content-Disposition: attachment x\n", "text/plain", nil, "7bit", false},
	{"Content-Disposition:\n", "text/plain", nil, "7bit", false},
	{"Content-Disposition: inline\nContent-Disposition: attachment\n", "text/plain", nil, "7bit", false},
	{"Content-Disposition: attachment\nContent-Disposition: inline\n", "text/plain", nil, "7bit", true},
	// All of them.
	{"A: b\nContent-Disposition: attachment\nContent-Transfer-Encoding: BASE64\nContent-Type: A/B;C=D\nE: f\n", "a/b", list("c", "D"), "base64", true},
}

func TestTreeHeaders(t *testing.T) {
	for _, c := range headers {
		s := c.s + "\nbody\n"
		want := api.Part{Type: c.kind, Params: c.params, Enc: c.enc, Attach: c.attach, From: len(s) - 5, To: len(s)}
		hold(t, s, want)
		holdAll(t, s)
		hold(t, c.s, api.Part{Type: c.kind, Params: c.params, Enc: c.enc, Attach: c.attach, From: len(c.s), To: len(c.s)})
		// Of a kid it is told likewise, and of the message around it nothing of that.
		const ahead = "Content-Type: multipart/mixed; boundary=zz\n\n--zz\n"
		whole := ahead + s + "\n--zz--\n\n" + headers[len(headers)-1].s
		want.Head, want.From, want.To = len(ahead), len(ahead)+want.From, len(ahead)+want.To
		hold(t, whole, api.Part{Type: "multipart/mixed", Params: list("boundary", "zz"), Enc: "7bit", From: len(ahead) - 5, To: len(whole), Kids: []api.Part{want}})
	}
}

// 13.2: of which types and parameters there are kids.
func TestTreeWhichHaveKids(t *testing.T) {
	for _, c := range []struct {
		kind string
		kids bool
	}{
		{"multipart/mixed; boundary=z", true},
		{"MULTIPART/x; BOUNDARY=z", true},
		{"multipart/ x; boundary=z", true},
		{"multipart/form-data; a=b; boundary = \"z\" ; c", true},
		{"multipart/x; boundary=z; boundary=y", true},
		{"multipart/x; boundary=\"z", true},
		{"multipart/x;\n boundary=z", true},
		{"multipart/x; boundary=y; boundary=z", false}, // the first one counts
		{"multipart/x; boundary; boundary=z", false},
		{"multipart/x; boundary=\"\"; boundary=z", false},
		{"multipart/x", false},
		{"multipart/x; boundary", false},
		{"multipart/x; boundary=", false},
		{"multipart/x; boundary=Z", false},
		{"multipart/x; boundary=\" z\"", false},
		{"multipart/x; boundary*=z", false},
		{"multipart/x; a=\"; boundary=z\"", false},
		{"multipart/x; boundarys=z; bound ary=z; xboundary=z", false},
		{"multipart; boundary=z", false},
		{"multipart/; boundary=z", false},
		{"multipart/x/y; boundary=z", false},
		{"multipart /x; boundary=z", false},
		{"multiparts/x; boundary=z", false},
		{"multipar/x; boundary=z", false},
		{"x-multipart/x; boundary=z", false},
		{"message/rfc822; boundary=z", false},
		{"text/plain; boundary=z", false},
		{"/multipart; boundary=z", false},
	} {
		s := "Content-Type: " + c.kind + "\n\n--z\n\na\n--\n\nb\n----\n\nc\n"
		if p := holdAll(t, s); len(p.Kids) == 1 != c.kids {
			t.Errorf("%q has %d kids", c.kind, len(p.Kids))
		}
	}
	// What else a multipart is does not matter.
	for _, more := range []string{"Content-Transfer-Encoding: base64\n", "Content-Disposition: attachment\n"} {
		if p := holdAll(t, more+"Content-Type: multipart/x; boundary=z\n\n--z\n\na"); len(p.Kids) != 1 {
			t.Errorf("with %q there are %d kids", more, len(p.Kids))
		}
	}
}

// 13.2: boundaries as they stand in a header, bodies, and the octets of their kids.
var bodies = []struct {
	boundary, body string
	kids           []string
}{
	{"z", "", nil},
	{"z", "a\n", nil},
	{"z", "--z", []string{""}},
	{"z", "--z\n", []string{""}},
	{"z", "--z\r\n", []string{""}},
	{"z", "--z\na", []string{"a"}},
	{"z", "--z\na\n", []string{"a\n"}}, // without a mark behind it: to the end
	{"z", "--z\na\r\n\r\n", []string{"a\r\n\r\n"}},
	{"z", "--z\na\n--z--", []string{"a"}},
	{"z", "--z\r\na\r\n--z--\r\n", []string{"a"}},
	{"z", "--z\na\n--z\nb\n--z\r\nc\n--z--\n", []string{"a", "b", "c"}},
	{"z", "pre\n--z\na\n--z--\npost", []string{"a"}},
	{"z", "\n\n--z\n\na\n--z--\n\n", []string{"\na"}},
	{"z", "--z\nA: b\n\na\n--z\nA: --z\n --z\n\nb", []string{"A: b\n\na", "A: --z\n --z\n\nb"}},
	// The line's end ahead of a mark, one alone.
	{"z", "--z\na\n\n--z--", []string{"a\n"}},
	{"z", "--z\na\r\n\r\n--z--", []string{"a\r\n"}},
	{"z", "--z\na\n\r\n--z--", []string{"a\n"}},
	{"z", "--z\na\r\n\n--z--", []string{"a\r\n"}},
	{"z", "--z\na\r\r\n--z--", []string{"a\r"}},
	{"z", "--z\na \t\n--z--", []string{"a \t"}},
	{"z", "--z\na\r--z--", []string{"a\r--z--"}},
	{"z", "--z\n\n--z--", []string{""}},
	{"z", "--z\r\n\r\n--z--", []string{""}},
	{"z", "--z\n\r\r\n--z--", []string{"\r"}},
	{"z", "--z\n\n\n--z--", []string{"\n"}},
	{"z", "--z\r\n\r\n\r\n--z--", []string{"\r\n"}},
	// Kids that would end ahead of where they begin.
	{"z", "--z\n--z--", []string{""}},
	{"z", "--z\r\n--z--", []string{""}},
	{"z", "--z\n--z\r\n--z \n--z", []string{"", "", "", ""}},
	{"z", "--z\n--z\na", []string{"", "a"}},
	{"z", "--z\na\n--z\n--z\nb", []string{"a", "", "b"}},
	// Ends.
	{"z", "--z--", nil},
	{"z", "--z--\n--z\na", nil},
	{"z", "--z\na\n--z--\n--z\nb\n--z--\n", []string{"a"}},
	{"z", "--z\na\n--z--\nb\n--z--\n--z\nc", []string{"a"}},
	{"z", "--z\na\n--z-- \t\r\n--z\nb", []string{"a"}},
	// What is a mark.
	{"z", "--z \t \r\na\n--z\t", []string{"a", ""}},
	{"z", "--z \t \na\n--z-- \t", []string{"a"}},
	{"z", "--z\r", nil}, // a line that ends at the end keeps its byte 13
	{"z", "--z\r\n--z\r", []string{"--z\r"}},
	{"z", "--z\na\n--z--\r", []string{"a\n--z--\r"}},
	{"z", "--z\r\r\na", nil},
	{"z", "--z \r\t\na", nil},
	{"z", " --z\na", nil},
	{"z", "\t--z\na", nil},
	{"z", "\r--z\na", nil},
	{"z", "a --z\na", nil},
	{"z", "-z\na\n z\na\nz\na", nil},
	{"z", "---z\na", nil},
	{"z", "--zz\na", nil},
	{"z", "--z-\na", nil},
	{"z", "--z---\n--z----\n--z--z\n--z -- \n--z- -\na", nil},
	{"z", "-- z\na", nil},
	{"z", "--Z\na", nil},
	{"z", "--z:\n--z\v\n--z\x00\n--z\u00a0\n--z\xa0\na", nil},
	{"z", "--\n\n----\n\n--", nil},
	// Boundaries.
	{"Z", "--z\na\n--Z\nb", []string{"b"}},
	{"\"a b;c\"", "--a b;c\na\n--a b;c--", []string{"a"}},
	{"\"a\\\"b\\\\\"", "--a\"b\\\na\n--a\"b\\--", []string{"a"}},
	{"\"z\" y", "--z y\na\n--z\nb", []string{"b"}},
	{"a b", "--a b\na", []string{"a"}},
	{"\" z\"", "--z\na\n-- z\nb", []string{"b"}},
	{"\"z \"", "--z\na\n--z \nb\n--z  \nc\n--z --", nil}, // of such a mark the blanks are gone, but of an end
	{"\"z\t\"", "--z\na\n--z\t\nb", nil},
	{"\" \"", "--\na\n-- \nb\n-- --\nc", nil},
	{"-", "--\n---\na\n-----\nb\n---\nc", []string{"a"}},
	{"--", "--\n----\na\n------\nb\n----\nc", []string{"a"}},
	{"z--", "--z\na\n--z--\nb\n--z----\nc", []string{"b"}},
	{"\"z\r\"", "--z\r\na\n--z\r\r\nb\n--z\r--\r\nc", []string{"b"}},
	{"\"z\r\"", "--z\r", []string{""}},
	{"\u00e4\xff", "--\u00e4\xff\na\n--\u00e4\n--\u00e4\xfe\n", []string{"a\n--\u00e4\n--\u00e4\xfe\n"}},
	{"z*+.[(", "--z*+.[(\na\n--z*+.[(--", []string{"a"}},
	{strings.Repeat("z", 70000), "--" + strings.Repeat("z", 70000) + "\na\n--" + strings.Repeat("z", 69999) + "\n--" + strings.Repeat("z", 70001), []string{"a\n--" + strings.Repeat("z", 69999) + "\n--" + strings.Repeat("z", 70001)}},
}

// octets is what kids are made of.
func octets(s string, kids []api.Part) []string {
	var l []string
	for _, k := range kids {
		l = append(l, s[k.Head:k.To])
	}
	return l
}

func TestTreeKids(t *testing.T) {
	for _, c := range bodies {
		for _, end := range []string{"\n", "\r\n"} {
			s := "Content-Type: multipart/x; boundary=" + c.boundary + end + end + c.body
			p := holdAll(t, s)
			if got := octets(s, p.Kids); !slices.Equal(got, c.kids) {
				t.Errorf("kids of %s, %s: %s, want %s", shown(c.boundary), shown(c.body), shown(got), shown(c.kids))
			}
			// In another message they are the same, as what is behind them is not theirs (but a byte 13 ahead of a byte 10).
			if strings.HasSuffix(c.body, "\r") {
				end = "\r\n"
			}
			s = "Content-Type: multipart/x; boundary=\"x y\"\n\npre\n--x y" + end + s + end + "--x y--\n" + c.body
			p = holdAll(t, s)
			if len(p.Kids) != 1 {
				t.Errorf("the kid is %s", shown(octets(s, p.Kids)))
			} else if got := octets(s, p.Kids[0].Kids); !slices.Equal(got, c.kids) {
				t.Errorf("kids of %s, %s within: %s, want %s", shown(c.boundary), shown(c.body), shown(got), shown(c.kids))
			}
		}
	}
}

// 13.2: a body ahead of its first mark, behind its end, and a boundary within: marks of the outer one end a kid wherever they stand.
func TestTreeWithin(t *testing.T) {
	const s = "Content-Type: multipart/mixed; boundary=o\n\n--o\n" +
		"Content-Type: multipart/alternative; boundary=i\n\n--o is none\n--i\n\none\n--i\nA: b\n--o\n\ntwo\n--i\n\nthree\n--o--\n--i--\n"
	p := holdAll(t, s)
	if len(p.Kids) != 2 || p.Kids[0].Type != "multipart/alternative" {
		t.Fatalf("the kids are %q", octets(s, p.Kids))
	}
	if got := octets(s, p.Kids[0].Kids); !slices.Equal(got, []string{"\none", "A: b"}) {
		t.Errorf("the inner kids are %q", got)
	}
	if got := s[p.Kids[1].From:p.Kids[1].To]; got != "two\n--i\n\nthree" || len(p.Kids[1].Kids) != 0 {
		t.Errorf("the second kid is %q", got)
	}
	// The same boundary within: all marks are the outer one's.
	twice := "Content-Type: multipart/x; boundary=z\n\n"
	twice += "--z\n" + twice + "--z\n\na\n--z--\n"
	if p := holdAll(t, twice); len(p.Kids) != 2 || len(p.Kids[0].Kids) != 0 {
		t.Errorf("of the same boundary there are %d kids", len(p.Kids))
	}
	// A line of a header is no mark of its own message.
	header := "A: b\n--z\nContent-Type: multipart/x; boundary=z\n\n--z\n\na"
	if p := holdAll(t, header); !slices.Equal(octets(header, p.Kids), []string{"\na"}) {
		t.Errorf("the kids are %q", octets(header, p.Kids))
	}
}

// count is how many parts p is made of, and how many are in one another.
func count(p api.Part) (parts, deep int) {
	parts = 1
	for _, k := range p.Kids {
		n, d := count(k)
		parts += n
		deep = max(deep, d+1)
	}
	return parts, deep
}

// multi is a message of kids with a boundary of its own.
func multi(boundary string, kids ...string) string {
	s := "Content-Type: multipart/mixed; boundary=" + boundary + "\n\n"
	for _, k := range kids {
		s += "--" + boundary + "\n" + k + "\n"
	}
	return s + "--" + boundary + "--\n"
}

// 13.2: MaxParts, itself counted.
func TestTreeMaxParts(t *testing.T) {
	for n := range 70 {
		for _, kid := range []string{"", "\n", "A: b\n\nc", "Content-Type: multipart/x; boundary=z\n"} {
			p := holdAll(t, multi("b", slices.Repeat([]string{kid}, n)...))
			if len(p.Kids) != min(n, api.MaxParts-1) {
				t.Errorf("of %d kids %d are told", n, len(p.Kids))
			}
		}
		// Each ahead of its kids: of two with n kids each, the first one's come ahead of the second.
		kids := slices.Repeat([]string{"\nx"}, n)
		p := holdAll(t, multi("b", multi("c", kids...), multi("d", kids...)))
		first, second := min(n, api.MaxParts-2), max(0, min(n, api.MaxParts-3-n))
		if n > api.MaxParts-3 {
			if len(p.Kids) != 1 || len(p.Kids[0].Kids) != first {
				t.Errorf("two of %d kids each: %d are told", n, len(p.Kids))
			}
			continue
		}
		if len(p.Kids) != 2 || len(p.Kids[0].Kids) != first || len(p.Kids[1].Kids) != second {
			t.Errorf("two of %d kids each: %d are told", n, len(p.Kids))
		}
	}
	// One that is left out makes no room for its kids, nor for what is behind it.
	full := multi("c", slices.Repeat([]string{"\nx"}, api.MaxParts-3)...)
	p := holdAll(t, multi("b", full, multi("d", "\ny"), "\nz"))
	if len(p.Kids) != 2 || p.Kids[1].Type != "multipart/mixed" || len(p.Kids[1].Kids) != 0 {
		t.Errorf("behind %d parts: %+v", api.MaxParts-1, p.Kids)
	}
}

// 13.2: MaxIn.
func TestTreeMaxIn(t *testing.T) {
	for n := range 20 {
		s := "\nx"
		for i := range n {
			s = multi(fmt.Sprint("b", i), s, "\ny")
		}
		p := holdAll(t, s)
		parts, deep := count(p)
		if deep != min(n, api.MaxIn) || parts != 2*deep+1 {
			t.Errorf("of %d in one another %d are told, %d parts", n, deep, parts)
		}
		last := p
		for range deep {
			last = last.Kids[0]
		}
		if n > api.MaxIn && (last.Type != "multipart/mixed" || !slices.Equal(last.Params, list("boundary", fmt.Sprint("b", n-api.MaxIn-1)))) {
			t.Errorf("the innermost one told is %+v", last)
		}
	}
	// How many are beside it, ahead of it and in it does not matter.
	s := "\nx"
	for i := range api.MaxIn + 1 {
		s = multi(fmt.Sprint("b", i), "\ny", "\ny", s)
	}
	if parts, deep := count(holdAll(t, s)); deep != api.MaxIn || parts != 3*api.MaxIn+1 {
		t.Errorf("%d parts, %d in one another", parts, deep)
	}
}

// 13.2: both limits, of trees of any widths.
func TestTreeLimitsAny(t *testing.T) {
	r := rand.New(rand.NewSource(30))
	names := 0
	var any func(left int) string
	any = func(left int) string {
		if left == 0 || r.Intn(4) == 0 {
			return "\nx"
		}
		names++
		boundary := fmt.Sprint("b", names)
		var kids []string
		for range r.Intn(6) {
			kids = append(kids, any(left-1))
		}
		return multi(boundary, kids...)
	}
	full, deepest := 0, 0
	for range 300 {
		parts, deep := count(holdAll(t, any(8)))
		if parts == api.MaxParts {
			full++
		}
		if deep == api.MaxIn {
			deepest++
		}
		if parts > api.MaxParts || deep > api.MaxIn {
			t.Fatalf("%d parts, %d in one another", parts, deep)
		}
	}
	if full < 50 || deepest < 50 {
		t.Errorf("only %d of all parts, %d of all depths", full, deepest)
	}
}

// 13.2: all short bodies of what counts.
func TestTreeEachShort(t *testing.T) {
	check := func(s string) { holdAll(t, s) }
	const ahead = "Content-Type: multipart/x; boundary=z\n\n"
	eachRow(ahead, []string{"--z", "--", "\n", "\r", " ", "a"}, 6, check)
	eachRow(ahead, []string{"--z\n", "--z--\n", "\n", "\r\n", "a"}, 6, check)
	eachRow("Content-Type: multipart/x; boundary=-\n\n", []string{"-", "\n", " "}, 9, check)
	eachRow("", []string{"Content-Type:", "multipart/x", ";boundary=z", "\n", "--z\n"}, 6, check)
}

// 13.2: each byte at each place of a message, and all pieces of it.
func TestTreeEachByte(t *testing.T) {
	const s = "Content-Type: multipart/x; boundary=\"z\"\r\n\r\n--z \r\nContent-Type: multipart/y; boundary=y\n\n--y\na\n--y--\r\n--z\nContent-Transfer-Encoding: base64\n\nYQ==\r\n--z--\n--z\n"
	eachTurned(s, func(s string) { holdAll(t, s) })
}

// 13.2: rows of any pieces.
func TestTreeAny(t *testing.T) {
	r := rand.New(rand.NewSource(15))
	pieces := []string{
		"Content-Type: multipart/mixed; boundary=a\n\n", "Content-Type: multipart/x; boundary=b\r\n\r\n", "content-type: multipart/x;\n boundary=\"a b\"\n\n", "Content-Type: a/b; boundary=a\n",
		"Content-Transfer-Encoding: BASE64\n", "Content-Disposition: attachment\n", "--a\n", "--a\r\n", "\n--a\n", "--a--\n", "--b\n", "--b \t\r\n", "\r\n--b--\r\n", "--a b\n", "--a b--\n",
		"--", "a", "b", " ", "\n", "\r\n", "\r", "\n\n", "text\n", "\xff",
	}
	for range 100000 {
		s := anyRow(r, pieces, 40)
		if r.Intn(4) > 0 {
			s = pieces[r.Intn(3)] + s
		}
		holdAll(t, s)
	}
}

// told is a part as a test makes it up: what it is by its headers, and what it says.
type told struct {
	kind, enc, says string
	kids            []told
}

// write tells a message by the library's own means; names is how many boundaries there are so far.
func write(m told, names *int) (header textproto.MIMEHeader, body string) {
	header = textproto.MIMEHeader{"Content-Type": {m.kind}}
	var b bytes.Buffer
	switch m.enc {
	case "base64":
		header["Content-Transfer-Encoding"] = []string{"Base64"}
		b.WriteString(base64.StdEncoding.EncodeToString([]byte(m.says)))
	case "quoted-printable":
		header["Content-Transfer-Encoding"] = []string{"QUOTED-printable"}
		w := quotedprintable.NewWriter(&b)
		w.Binary = true
		w.Write([]byte(m.says))
		w.Close()
	default:
		b.WriteString(m.says)
	}
	if len(m.kids) == 0 {
		return header, b.String()
	}
	w := multipart.NewWriter(&b)
	*names++
	w.SetBoundary(fmt.Sprint("=_(", *names, " ;?"))
	for _, k := range m.kids {
		h, text := write(k, names)
		part, _ := w.CreatePart(h)
		part.Write([]byte(text))
	}
	w.Close()
	header["Content-Type"] = []string{mime.FormatMediaType(m.kind, map[string]string{"boundary": w.Boundary()})}
	return header, b.String()
}

// holdTold holds a part of s against what it was made of.
func holdTold(t *testing.T, s string, p api.Part, m told) {
	t.Helper()
	if p.Type != m.kind || p.Enc != m.enc || len(p.Kids) != len(m.kids) {
		t.Fatalf("%s %s with %d kids, want %s %s with %d", p.Type, p.Enc, len(p.Kids), m.kind, m.enc, len(m.kids))
	}
	if got := Content(s, p); len(m.kids) == 0 && got != m.says {
		t.Fatalf("%s %s says %s, want %s", p.Type, p.Enc, shown(got), shown(m.says))
	}
	for i, k := range p.Kids {
		holdTold(t, s, k, m.kids[i])
	}
}

// 13.2, 13.3: messages that the library tells are read back.
func TestTreeOfTold(t *testing.T) {
	r := rand.New(rand.NewSource(16))
	var any func(left int) told
	any = func(left int) told {
		if left == 0 || r.Intn(3) == 0 {
			text := make([]byte, r.Intn(200))
			r.Read(text)
			return told{kind: fmt.Sprint("a/b", r.Intn(100)), enc: []string{"base64", "quoted-printable", "7bit"}[r.Intn(3)], says: string(text)}
		}
		m := told{kind: "multipart/mixed", enc: "7bit"}
		for range 1 + r.Intn(3) {
			m.kids = append(m.kids, any(left-1))
		}
		return m
	}
	read := 0
	for range 2000 {
		m := any(3) // 40 parts at most
		names := 0
		header, body := write(m, &names)
		var b strings.Builder
		for name, values := range header {
			b.WriteString(name + ": " + values[0] + "\r\n")
		}
		s := b.String() + "\r\n" + body
		p := holdAll(t, s)
		if parts, _ := count(p); parts < api.MaxParts {
			holdTold(t, s, p, m)
			read++
		}
	}
	if read < 1000 {
		t.Errorf("only %d are read back", read)
	}
}

// 13.2: every call ends soon (R1), of long messages and of many marks.
func TestTreeGreat(t *testing.T) {
	const n = 1 << 14
	const ahead = "Content-Type: multipart/x; boundary=z\n\n"
	for _, s := range []string{"--z\n", "--z\n\na\n", "--z\r\n\r\n", "a\n", "\n", "\r", " ", "--z", "--z ", "-", "--zz\n", "--z--\n", "--z\n" + ahead, ahead + "--z\n", ahead} {
		holdAll(t, ahead+strings.Repeat(s, n))
		holdAll(t, ahead+"--z\n"+strings.Repeat(s, n)+"--z\n")
		holdAll(t, strings.Repeat(s, n))
	}
	long := strings.Repeat("x", n)
	holdAll(t, "Content-Type: multipart/x; boundary="+long+"\n\n"+strings.Repeat("--"+long+"\n", 40))
	holdAll(t, "Content-Type: multipart/x"+strings.Repeat("; boundary=z", n)+"\n\n--z\n\na")
	holdAll(t, strings.Repeat("Content-Type: multipart/x; boundary=z\n", n)+"\n--z\n\na")
	deep := ""
	for i := range 2000 {
		deep += fmt.Sprintf("Content-Type: multipart/x; boundary=b%d\n\n--b%d\n", i, i)
	}
	if _, d := count(holdAll(t, deep+long)); d != api.MaxIn {
		t.Errorf("%d in one another", d)
	}
	for _, c := range []struct {
		s    string
		kids int
	}{{"--z\n", api.MaxParts - 1}, {"--z--\n", 0}, {"\n", 0}, {" ", 0}, {"--z", 0}, {"--zz\n", 0}} {
		many := ahead + strings.Repeat(c.s, 1<<20)
		if p := Tree(many); len(p.Kids) != c.kids || p.From != len(ahead) || p.To != len(many) {
			t.Errorf("of many %q: %d kids, from %d to %d", c.s, len(p.Kids), p.From, p.To)
		}
	}
	big := ahead + "--z\nContent-Transfer-Encoding: quoted-printable\n\n" + strings.Repeat("=41=\n", 1<<20) + "\n--z--"
	if p := Tree(big); len(p.Kids) != 1 || Content(big, p.Kids[0]) != strings.Repeat("A", 1<<20) {
		t.Error("a great part is not told")
	}
}
