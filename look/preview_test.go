package look

import (
	"encoding/base64"
	"fmt"
	"math/rand"
	"mime"
	"regexp"
	"strings"
	"testing"
	"unicode/utf8"

	"pillarbox/api"
	"pillarbox/field"
	"pillarbox/part"
	"pillarbox/word"
)

var (
	gaps    = regexp.MustCompile(`[\x00- ]+`)
	aHunder = regexp.MustCompile(`^(?s:.{0,100})`)
)

// pointsOf is s, or its bytes as code points.
func pointsOf(s string) string {
	if utf8.ValidString(s) {
		return s
	}
	var l []rune
	for _, c := range []byte(s) {
		l = append(l, rune(c))
	}
	return string(l)
}

// inOrder is all parts of a message, each ahead of its kids.
func inOrder(p api.Part) []api.Part {
	l := []api.Part{p}
	for _, k := range p.Kids {
		l = append(l, inOrder(k)...)
	}
	return l
}

// wantedPreview is what a preview must tell.
func wantedPreview(s string) string {
	for _, p := range inOrder(part.Tree(s)) {
		if p.Kids == nil && p.Type == "text/plain" && !p.Attach {
			all := gaps.ReplaceAllString(pointsOf(part.Content(s, p)), " ")
			return aHunder.FindString(strings.TrimSuffix(strings.TrimPrefix(all, " "), " "))
		}
	}
	return ""
}

// holdPreview holds a preview against what it must tell.
func holdPreview(t *testing.T, s string) {
	t.Helper()
	if got, want := Preview(s), wantedPreview(s); got != want {
		t.Fatalf("Preview(%s) is %q, want %q", shown(s), got, want)
	}
}

// holdSubject holds a subject against what it must tell.
func holdSubject(t *testing.T, s string) {
	t.Helper()
	fields, _ := field.Split(s, 0, len(s))
	want := ""
	for _, f := range fields {
		if strings.EqualFold(f.Name, "Subject") {
			want = pointsOf(word.Decode(f.Value))
			break
		}
	}
	if got := Subject(s); got != want {
		t.Fatalf("Subject(%s) is %q, want %q", shown(s), shown(got), shown(want))
	}
}

// 14.3: what is shown of a body.
func TestPreview(t *testing.T) {
	r := strings.Repeat
	for _, c := range []struct{ body, want string }{
		{"", ""},
		{"a", "a"},
		{"A b\nC", "A b C"},
		// Bytes up to 32.
		{" ", ""},
		{"\x00\t\r\n \x1f", ""},
		{" a", "a"},
		{"a ", "a"},
		{"\r\n\ta\x00", "a"},
		{"a  b", "a b"},
		{"a\x00\x01\x1f b", "a b"},
		{"a\x1fb\x1ec\td\ve\ff\rg\nh", "a b c d e f g h"},
		{"a!b\x7fc", "a!b\x7fc"},
		{" \n a \n b \n ", "a b"},
		{"a\u00a0b\u0085c\u2003d\u2028e\u3000f\ufeffg", "a\u00a0b\u0085c\u2003d\u2028e\u3000f\ufeffg"}, // code points beyond 32 are no gaps
		{"\u0080", "\u0080"},
		{"\ufffd", "\ufffd"},
		// Not Valid.
		{"\xe4", "\u00e4"},
		{"\xe4 \n\xe4", "\u00e4 \u00e4"},
		{"\x80\xa0\xff", "\u0080\u00a0\u00ff"},
		{"\u00e4\xff", "\u00c3\u00a4\u00ff"}, // each byte then
		{"\xc3 \xa4", "\u00c3 \u00a4"},
		{" \xc3", "\u00c3"},
		{"\xed\xa0\x80", "\u00ed\u00a0\u0080"},
		{"\xc0\x80", "\u00c0\u0080"},
		{"\xf4\x90\x80\x80", "\u00f4\u0090\u0080\u0080"},
		{"\u00e4" + r("x", 200) + "\xff", "\u00c3\u00a4" + r("x", 98)}, // all of it counts, not what is shown alone
		{r("\xe4", 101), r("\u00e4", 100)},
		// The first 100 code points.
		{r("x", 99), r("x", 99)},
		{r("x", 100), r("x", 100)},
		{r("x", 101), r("x", 100)},
		{r("\u00e4", 100), r("\u00e4", 100)},
		{r("\u00e4", 101), r("\u00e4", 100)},
		{r("\u20ac", 101), r("\u20ac", 100)},
		{r("\U0001f600", 101), r("\U0001f600", 100)},
		{r("a\u0308", 51), r("a\u0308", 50)},
		{r(" ", 500) + r("x", 101), r("x", 100)}, // gaps go first
		{r("a \n", 101), r("a ", 50)},            // a blank that is the last then stays
		{r("ab ", 101), r("ab ", 33) + "a"},
		{r("x", 99) + " ", r("x", 99)},
		{r("x", 99) + "  x", r("x", 99) + " "},
		{r("x", 100) + " x", r("x", 100)},
		{"a" + r(" ", 1000) + "b", "a b"},
	} {
		for head, body := range map[string]string{
			"\n":     c.body,
			"\r\n":   c.body,
			"A: b\n": "\n" + c.body,
			"Content-Type: text/plain; charset=x\nContent-Disposition: inline; filename=attachment\n": "\n" + c.body,
			"Content-Type: x\nContent-Disposition: attachments\nContent-Transfer-Encoding: 8bit\n":    "\n" + c.body,
			"Content-Transfer-Encoding: base64\n":                                                     "\n" + base64.StdEncoding.EncodeToString([]byte(c.body)),
			"Content-Transfer-Encoding: quoted-printable\n":                                           "\n" + hexOf(c.body),
			"Content-Type: multipart/x; boundary=\"=z\"\nContent-Disposition: attachment\n":           "\n--=z\n\n" + c.body + "\n--=z--\nx",
		} {
			if got := Preview(head + body); got != c.want {
				t.Errorf("Preview(%q) is %q, want %q", head+body, got, c.want)
			}
			holdPreview(t, head+body)
		}
	}
	if got := Preview("Content-Transfer-Encoding: x\n\nw6Q= =C3=A4"); got != "w6Q= =C3=A4" {
		t.Errorf("of another Enc: %q", got)
	}
}

// hexOf is all bytes of s in quoted-printable.
func hexOf(s string) string {
	var b strings.Builder
	for i := range len(s) {
		fmt.Fprintf(&b, "=%02X", s[i])
	}
	return b.String()
}

// 14.3: which part is shown.
func TestPreviewWhich(t *testing.T) {
	const (
		plain  = "\nplain"
		html   = "Content-Type: text/html\n\nhtml"
		attach = "Content-Disposition: attachment\n\nattach"
		empty  = "\n \t "
		mixed  = "Content-Type: multipart/mixed; boundary=none\n\nmixed"
	)
	for _, c := range []struct{ s, want string }{
		{"", ""},
		{"Subject: s", ""},
		{"Subject: s\n", ""},
		{plain, "plain"},
		{html, ""},
		{attach, ""},
		{mixed, ""},
		{"Content-Type: text/plain; x\nContent-Disposition: ATTACHMENT; y\n\nplain", ""},
		{"Content-Type: TEXT/Plain\n\nplain", "plain"},
		{"Content-Type: text/plainer\n\nplain", ""},
		{"Content-Type: text/plai\n\nplain", ""},
		{"Content-Type: xtext/plain\n\nplain", ""},
		{"Content-Type: text/ plain\n\nplain", ""},
		{"Content-Type: message/rfc822\n\n\nplain", ""},
		{multi("z"), ""},
		{multi("z", html, plain, "\nother"), "plain"},
		{multi("z", attach, "\nother", plain), "other"},
		{multi("z", html, attach, mixed), ""},
		{multi("z", empty, plain), ""}, // the first one, whatever it says
		{multi("z", multi("y", html, plain), "\nother"), "plain"},
		{multi("z", multi("y", html, multi("x", attach, plain), "\nthird"), "\nother"), "plain"},
		{multi("z", multi("y", html, attach), "\nother", plain), "other"},
		{multi("z", "\nother", multi("y", plain)), "other"},
		{"Content-Disposition: attachment\n" + multi("z", plain), "plain"}, // a part for itself
		{multi("z", "Content-Disposition: attachment\n"+multi("y", html, plain)), "plain"},
		{nested(6, plain), "plain"},
		{nested(7, plain), ""},
		{multi("z", append(make([]string, 0), strings.Split(strings.Repeat(html+"|", api.MaxParts-2)+plain, "|")...)...), "plain"},
		{multi("z", append(make([]string, 0), strings.Split(strings.Repeat(html+"|", api.MaxParts-1)+plain, "|")...)...), ""},
		{letter, "\u00e4 b"},
	} {
		if got := Preview(c.s); got != c.want {
			t.Errorf("Preview(%q) is %q, want %q", c.s, got, c.want)
		}
		holdPreview(t, c.s)
	}
}

// 14.3: each byte, each two, and bodies of each length about 100 code points.
func TestPreviewEach(t *testing.T) {
	for a := range 256 {
		for b := range 256 {
			two := string([]byte{byte(a), byte(b)})
			holdPreview(t, "\n"+two)
			holdPreview(t, "\nx"+two+"y")
		}
	}
	eachRow("\n", []string{" ", "\n", "a", "\u00e4", "\xe4", "\x7f", "\x00"}, 6, func(s string) { holdPreview(t, s) })
	for _, piece := range []string{"x", "\u00e4", "\u20ac", "\U0001f600", "a ", "\u20ac\t\n", "\xff", "\xff "} {
		for n := range 130 {
			holdPreview(t, "\n"+strings.Repeat(piece, n))
			holdPreview(t, "\n a\n"+strings.Repeat(piece, n)+" b ")
		}
	}
}

// 14.3: subjects.
func TestSubject(t *testing.T) {
	for _, c := range []struct{ s, want string }{
		{"", ""},
		{"body", ""},
		{"\nSubject: a", ""},
		{"A: b\n\nSubject: a", ""},
		{"Subject:", ""},
		{"Subject: a", "a"},
		{"SUBJECT: a\r\n", "a"},
		{"A: b\nsubject:\t a  b \t\n", "a  b"},
		{"Subject: a\r\n b\r\n\tc\r\n", "a b\tc"}, // gaps stay
		{"Subject: a\x00\x01\x7f", "a\x00\x01\x7f"},
		{"Subject: a\nSubject: b", "a"},
		{"Subject:\nSubject: b", ""},
		{"Subject : a\nX-Subject: b\nSubjects: c\nSubjec: d", ""},
		{"Subject: \"a\"", "\"a\""},
		{"Subject: =?utf-8?Q?=C3=A4_?= b", "\u00e4  b"},
		{"Subject: =?utf-8?B?w6Q=?= =?iso-8859-1?q?=E4?=", "\u00e4\u00e4"},
		{"Subject: =?utf-8?Q?a?=\r\n =?utf-8?Q?b?=\r\n", "ab"},
		{"Subject: =?utf-8?Q?=E4?=", "=?utf-8?Q?=E4?="},
		{"Subject: =?koi8-r?Q?a?=", "=?koi8-r?Q?a?="},
		{"Subject: =?utf-8?Q?=0A_?=", "\n "},
		{"Subject: \u00e4\u20ac\U0001f600", "\u00e4\u20ac\U0001f600"},
		{"Subject: \xe4", "\u00e4"},
		{"Subject: \u00e4\xe4", "\u00c3\u00a4\u00e4"},
		{"Subject: =?utf-8?Q?=C3=A4?= \xff", "\u00c3\u00a4 \u00ff"}, // what is decoded, byte by byte
		{"Subject: =?iso-8859-1?Q?=80?=\x80", "\u00c2\u0080\u0080"},
		{"Subject: \xed\xa0\x80", "\u00ed\u00a0\u0080"},
		{"Subject: " + strings.Repeat("\u00e4 ", 200) + "b", strings.Repeat("\u00e4 ", 200) + "b"}, // all of it
		{letter, "\u00e4 \"x\""},
	} {
		for _, behind := range []string{"", "\n\nSubject: x", "\r\nSubject: x\r\n\r\n\xff"} {
			if c.want == "" && strings.HasPrefix(behind, "\r\nS") {
				continue
			}
			if got := Subject(c.s + behind); got != c.want {
				t.Errorf("Subject(%q) is %q, want %q", c.s+behind, got, c.want)
			}
			holdSubject(t, c.s+behind)
		}
	}
}

// 14.3: each two bytes in a subject, and what the library tells of a text.
func TestSubjectEach(t *testing.T) {
	for a := range 256 {
		for b := range 256 {
			two := string([]byte{byte(a), byte(b)})
			holdSubject(t, "Subject: "+two)
			holdSubject(t, "Subject: x"+two+"=?utf-8?Q?=C3=A4?=")
		}
	}
	r := rand.New(rand.NewSource(143))
	for range 5000 {
		said := anyRow(r, strings.Split("aZ09 =?_\u00e4\u20ac\U0001f600", ""), 60)
		for _, e := range []mime.WordEncoder{mime.QEncoding, mime.BEncoding} {
			told := e.Encode("UTF-8", "\u00e4"+said+"\u00e4")
			if got := Subject("Subject: " + told + "\n\nx"); got != "\u00e4"+said+"\u00e4" {
				t.Fatalf("of %q: %q", told, got)
			}
		}
	}
}

// 14.3: bytes put in at each place, and rows of any pieces.
func TestPreviewAny(t *testing.T) {
	const bytes = "\n\r \t:;=\"/-zyaT?\x00\xff"
	eachTurned(letter, bytes, func(s string) {
		holdPreview(t, s)
		holdSubject(t, s)
	})
	r := rand.New(rand.NewSource(144))
	for range 30000 {
		s := anyMail(r)
		holdPreview(t, s)
		holdSubject(t, s)
	}
}
