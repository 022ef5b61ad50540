package look

import (
	"fmt"
	"math/rand"
	"slices"
	"strings"
	"testing"

	"pillarbox/api"
	"pillarbox/part"
)

// shape is what a structure tells of a part.
type shape struct {
	kind, form string // of one with kids the form alone
	params     []api.Field
	enc        string
	size       int
	lines      int // -1: not told
	kids       []shape
}

// params takes parameters, one at least, or NIL.
func (r *reader) params() []api.Field {
	if r.eat("NIL") {
		return nil
	}
	var l []api.Field
	for ahead := "("; !r.eat(")") && r.fault == ""; ahead = " " {
		r.must(ahead)
		f := api.Field{Name: r.text()}
		r.must(" ")
		f.Value = r.text()
		l = append(l, f)
	}
	if len(l) == 0 {
		r.fail("no parameters")
	}
	return l
}

// shape takes a part.
func (r *reader) shape() shape {
	r.must("(")
	if strings.HasPrefix(r.s, "(") {
		p := shape{lines: -1}
		for strings.HasPrefix(r.s, "(") {
			p.kids = append(p.kids, r.shape())
		}
		r.must(" ")
		p.form = r.text()
		r.must(")")
		return p
	}
	p := shape{kind: r.text(), lines: -1}
	r.must(" ")
	p.form = r.text()
	r.must(" ")
	p.params = r.params()
	r.must(" NIL NIL ")
	p.enc = r.text()
	r.must(" ")
	p.size = r.number()
	if r.eat(" ") {
		p.lines = r.number()
	}
	r.must(")")
	return p
}

// wantedShape is what a structure must tell of a part.
func wantedShape(s string, p api.Part) shape {
	i := strings.IndexByte(p.Type, '/')
	want := shape{form: p.Type[i+1:], lines: -1}
	if len(p.Kids) > 0 {
		for _, k := range p.Kids {
			want.kids = append(want.kids, wantedShape(s, k))
		}
		return want
	}
	body := s[p.From:p.To]
	want.kind, want.params, want.enc, want.size = p.Type[:i], p.Params, p.Enc, len(body)
	if strings.HasPrefix(p.Type, "text/") {
		want.lines = len(strings.Split(body, "\n")) - 1
	}
	return want
}

// sameShape says whether two are one.
func sameShape(a, b shape) bool {
	return a.kind == b.kind && a.form == b.form && slices.Equal(a.params, b.params) && a.enc == b.enc &&
		a.size == b.size && a.lines == b.lines && slices.EqualFunc(a.kids, b.kids, sameShape)
}

// holdStructure holds a structure against what it must tell.
func holdStructure(t *testing.T, s string) {
	t.Helper()
	r := reader{s: Structure(s)}
	got := r.shape()
	if r.s != "" {
		r.fail("more")
	}
	if want := wantedShape(s, part.Tree(s)); r.fault != "" || !sameShape(got, want) {
		t.Fatalf("Structure(%s): %s, it tells %.2000s, want %.2000s", shown(s), r.fault, fmt.Sprintf("%+v", got), fmt.Sprintf("%+v", want))
	}
}

// 14.2: parts without others in them.
func TestStructure(t *testing.T) {
	x200, x201 := strings.Repeat("x", 200), strings.Repeat("x", 201)
	for _, c := range []struct{ head, told string }{
		{"", `"text" "plain" NIL NIL NIL "7bit"`},
		{"Subject: s\nFrom: a@b\n", `"text" "plain" NIL NIL NIL "7bit"`},
		{"Content-Type: Text/HTML\n", `"text" "html" NIL NIL NIL "7bit"`},
		{"Content-Type: text/\n", `"text" "plain" NIL NIL NIL "7bit"`},
		{"Content-Type: image/png\n", `"image" "png" NIL NIL NIL "7bit"`},
		{"Content-Type: textual/x\n", `"textual" "x" NIL NIL NIL "7bit"`},
		{"Content-Type: tex/t\n", `"tex" "t" NIL NIL NIL "7bit"`},
		{"Content-Type: x-text/x\n", `"x-text" "x" NIL NIL NIL "7bit"`},
		{"Content-Type: text /x\n", `"text " "x" NIL NIL NIL "7bit"`},
		{"Content-Type: text/x y\n", `"text" "x y" NIL NIL NIL "7bit"`},
		{"Content-Type: message/rfc822\n", `"message" "rfc822" NIL NIL NIL "7bit"`},
		{"Content-Type: multipart/mixed\n", `"multipart" "mixed" NIL NIL NIL "7bit"`},
		{"Content-Type: multipart/mixed; boundary=none\n", `"multipart" "mixed" ("boundary" "none") NIL NIL "7bit"`},
		{"Content-Type: nil/nil\nContent-Transfer-Encoding: NIL\n", `"nil" "nil" NIL NIL NIL "nil"`},
		// Params.
		{"Content-Type: a/b; C=D\n", `"a" "b" ("c" "D") NIL NIL "7bit"`},
		{"Content-Type: a/b; c=d; e=f; c=g\n", `"a" "b" ("c" "d" "e" "f" "c" "g") NIL NIL "7bit"`},
		{"Content-Type: a/b; c; d=; e=\"\"\n", `"a" "b" ("c" "" "d" "" "e" "") NIL NIL "7bit"`},
		{"Content-Type: a/b; c=\"d \\\"\\\\\"; NIL=NIL\n", `"a" "b" ("c" "d \"\\" "nil" "NIL") NIL NIL "7bit"`},
		{"Content-Type: a/b; =d\n", `"a" "b" NIL NIL NIL "7bit"`},
		{"Content-Type: a; b=c\n", `"text" "plain" NIL NIL NIL "7bit"`},
		{"Content-Type: text/plain; charset=utf-8; format=flowed\n", `"text" "plain" ("charset" "utf-8" "format" "flowed") NIL NIL "7bit"`},
		{"Content-Type: a/b; \"c\"=\xff\n", "\"a\" \"b\" (\"\\\"c\\\"\" {1}\r\n\xff) NIL NIL \"7bit\""},
		{"Content-Type: a/b; " + x200 + "=" + x201 + "\n", `"a" "b" ("` + x200 + "\" {201}\r\n" + x201 + `) NIL NIL "7bit"`},
		{"Content-Disposition: attachment; filename=x\n", `"text" "plain" NIL NIL NIL "7bit"`},
		// Enc.
		{"Content-Transfer-Encoding: BASE64\n", `"text" "plain" NIL NIL NIL "base64"`},
		{"Content-Transfer-Encoding:\n", `"text" "plain" NIL NIL NIL ""`},
		{"Content-Transfer-Encoding: \"x\\\n", `"text" "plain" NIL NIL NIL "\"x\\"`},
		{"Content-Transfer-Encoding: \xff\n", "\"text\" \"plain\" NIL NIL NIL {1}\r\n\xff"},
		{"Content-Type: \u00e4\"/\\; a=b\nContent-Transfer-Encoding: base64\n", "{3}\r\n\u00e4\" \"\\\\\" (\"a\" \"b\") NIL NIL \"base64\""},
	} {
		for body, counts := range map[string][2]string{
			"": {"0", "0"}, "a": {"1", "0"}, "\n": {"1", "1"}, "\r\n": {"2", "1"}, "a\rb": {"3", "0"}, "a\nb": {"3", "1"}, "a\r\nb\r\n": {"6", "2"}, "\n\n\n": {"3", "3"}, "YQ==\n": {"5", "1"}, "\u00e4\u2028\xff\x00\n": {"8", "1"},
			strings.Repeat("x\n", 600): {"1200", "600"},
		} {
			told := c.told + " " + counts[0]
			if strings.HasPrefix(c.told, `"text" `) {
				told += " " + counts[1]
			}
			for _, end := range []string{"\n", "\r\n"} {
				s := c.head + end + body
				if got := Structure(s); got != "("+told+")" {
					t.Errorf("Structure(%q) is\n%q, want\n%q", s, got, "("+told+")")
				}
				// Within others it is told likewise.
				if strings.Contains(c.head, "none") {
					continue
				}
				want := "(" + told + ")"
				for range 6 {
					want = "(" + want + ` "mixed")`
				}
				if got := Structure(nested(6, s)); got != want {
					t.Errorf("Structure(%q) is\n%q, want\n%q", nested(6, s), got, want)
				}
			}
		}
	}
	if got := Structure(""); got != `("text" "plain" NIL NIL NIL "7bit" 0 0)` {
		t.Errorf("of nothing: %s", got)
	}
}

// 14.2: parts with others in them.
func TestStructureOfMany(t *testing.T) {
	const a = `("text" "plain" NIL NIL NIL "7bit" 1 0)`
	for _, c := range []struct{ s, want string }{
		{letter, `((("text" "html" ("charset" "utf-8") NIL NIL "base64" 4 0)("text" "plain" NIL NIL NIL "quoted-printable" 16 2) "alternative")("image" "png" ("name" "a b" "x" "") NIL NIL "7bit" 6) "mixed")`},
		{multi("z", "\na"), "(" + a + ` "mixed")`},
		{multi("z", "\na", "\na", "\na"), "(" + a + a + a + ` "mixed")`},
		{multi("z", ""), `(("text" "plain" NIL NIL NIL "7bit" 0 0) "mixed")`},
		{multi("z", multi("y", "\na"), "\na", multi("x", multi("w", "\na"), "\na")), "((" + a + ` "mixed")` + a + "((" + a + ` "mixed")` + a + ` "mixed") "mixed")`},
		{multi("z"), `("multipart" "mixed" ("boundary" "z") NIL NIL "7bit" 6)`},
		{multi("z", multi("y")), `(("multipart" "mixed" ("boundary" "y") NIL NIL "7bit" 6) "mixed")`},
		// Of one with kids nothing but them and its form is told.
		{"Content-Transfer-Encoding: base64\nContent-Disposition: attachment\nContent-Type: MULTIPART/X \"Y\"; a=b; boundary=z; c=d\n\n--z\n\na", "(" + a + ` "x \"y\"")`},
		{"Content-Type: multipart/\xff; boundary=z\n\n--z\n\na", "(" + a + " {1}\r\n\xff)"},
		{"Content-Type: multipart/" + strings.Repeat("x", 201) + "; boundary=z\n\n--z\n\na", "(" + a + " {201}\r\n" + strings.Repeat("x", 201) + ")"},
		// Within MaxIn others there are none.
		{nested(7, "\na"), strings.Repeat("(", 7) + `"multipart" "mixed" ("boundary" "b0e") NIL NIL "7bit" 17)` + strings.Repeat(` "mixed")`, 6)},
		// More than MaxParts are left out.
		{multi("z", slices.Repeat([]string{"\na"}, api.MaxParts)...), "(" + strings.Repeat(a, api.MaxParts-1) + ` "mixed")`},
	} {
		if got := Structure(c.s); got != c.want {
			t.Errorf("Structure(%q) is\n%q, want\n%q", c.s, got, c.want)
		}
		holdStructure(t, c.s)
	}
}

// 14.2: bytes put in at each place, and rows of any pieces.
func TestStructureAny(t *testing.T) {
	eachTurned(letter, "\n\r \t:;=\"\\/-zyaT\x00\xff", func(s string) { holdStructure(t, s) })
	r := rand.New(rand.NewSource(142))
	for range 30000 {
		holdStructure(t, anyMail(r))
	}
}
