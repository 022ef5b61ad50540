package look

import (
	"math/rand"
	"slices"
	"strconv"
	"strings"
	"testing"

	"pillarbox/api"
	"pillarbox/part"
)

// bodyAt is the place behind the first empty line, or the end.
func bodyAt(s string) int {
	body := len(s)
	for _, end := range []string{"\n\n", "\n\r\n"} {
		if at := strings.Index("\n"+s, end); at >= 0 {
			body = min(body, at+len(end)-1)
		}
	}
	return body
}

// wantedSections is all sections of a message, by what calls them.
func wantedSections(s string) map[string]string {
	body := bodyAt(s)
	l := map[string]string{"": s, "HEADER": s[:body], "TEXT": s[body:]}
	put := func(spec string, p api.Part) {
		l[spec] = s[p.From:p.To]
		l[spec+".MIME"] = s[p.Head:p.From]
	}
	var within func(ahead string, p api.Part)
	within = func(ahead string, p api.Part) {
		for i, k := range p.Kids {
			put(ahead+strconv.Itoa(i+1), k)
			within(ahead+strconv.Itoa(i+1)+".", k)
		}
		if len(p.Kids) == 0 {
			put(ahead+"1", p)
		}
	}
	within("", part.Tree(s))
	return l
}

// holdSection holds a section against what it must be.
func holdSection(t *testing.T, s, spec string) {
	t.Helper()
	want, wanted := wantedSections(s)[spec]
	if got, ok := Section(s, spec); got != want || ok != wanted {
		t.Fatalf("Section(%s, %s) is %s %v, want %s %v", shown(s), shown(spec), shown(got), ok, shown(want), wanted)
	}
}

// holdSections holds all sections of a message against what they must be, and some that it has not.
func holdSections(t *testing.T, s string) {
	t.Helper()
	all := wantedSections(s)
	for spec, want := range all {
		if got, ok := Section(s, spec); got != want || !ok {
			t.Fatalf("Section(%s, %q) is %s %v, want %s", shown(s), spec, shown(got), ok, shown(want))
		}
		for _, turned := range []string{spec + ".1", "2." + spec} {
			want, wanted := all[turned]
			if got, ok := Section(s, turned); got != want || ok != wanted {
				t.Fatalf("Section(%s, %q) is %s %v, want %s %v", shown(s), turned, shown(got), ok, shown(want), wanted)
			}
		}
	}
}

// 14.4: sections of a message without parts, wherever its body begins.
func TestSectionOfOne(t *testing.T) {
	for _, c := range []struct{ header, body string }{
		{"", ""}, {"a", ""}, {"A: b", ""}, {"A: b\n", ""}, {"A: b\r\n c\r\n", ""}, {"\n", ""}, {"\r\n", ""},
		{"\n", "a"}, {"\r\n", "\r\na\r\n\r\n"}, {"A: b\n\n", "c"}, {"A: b\r\n\r\n", "c\r\n"}, {"A: b\r\n\n", "\n"}, {"a\n \n\xff\n\n", "\x00"},
		{"A: b\n \n\t\nB: c\n\n", "d\n\ne"}, {"Content-Type: multipart/x\n\n", "--\n\na"}, {"Content-Type: multipart/x; boundary=z\n\n", "-- z\n"},
		{"Content-Transfer-Encoding: base64\n\n", "YQ=="}, {"Content-Disposition: attachment\n\n", "a"}, {"A: b\r", ""}, {"\r", ""},
	} {
		s := c.header + c.body
		for spec, want := range map[string]string{"": s, "HEADER": c.header, "TEXT": c.body, "1": c.body, "1.MIME": c.header} {
			if got, ok := Section(s, spec); got != want || !ok {
				t.Errorf("Section(%q, %q) is %q %v, want %q", s, spec, got, ok, want)
			}
		}
		for _, spec := range []string{"1.1", "1.1.MIME", "2", "0", "MIME", "1.TEXT", "1.HEADER"} {
			if got, ok := Section(s, spec); ok || got != "" {
				t.Errorf("Section(%q, %q) is %q %v", s, spec, got, ok)
			}
		}
		holdSections(t, s)
	}
}

// 14.4: sections of a message in parts.
func TestSection(t *testing.T) {
	head := letter[:strings.Index(letter, "\r\n\r\n")+4]
	inner := letter[strings.Index(letter, "--y\r\n"):strings.Index(letter, "\r\n--z\r\nContent-Disposition")]
	told := map[string]string{
		"": letter, "HEADER": head, "TEXT": letter[len(head):],
		"1": inner, "1.MIME": "Content-Type: multipart/alternative; boundary=y\r\n\r\n",
		"1.1": "PGI+", "1.1.MIME": "Content-Type: text/html; charset=\"utf-8\"\r\nContent-Transfer-Encoding: base64\r\n\r\n",
		"1.1.1": "PGI+", "1.1.1.MIME": "Content-Type: text/html; charset=\"utf-8\"\r\nContent-Transfer-Encoding: base64\r\n\r\n",
		"1.2": " =C3=A4=\r\n \t b\r\n", "1.2.MIME": "Content-Transfer-Encoding: quoted-printable\r\n\r\n",
		"1.2.1": " =C3=A4=\r\n \t b\r\n", "1.2.1.MIME": "Content-Transfer-Encoding: quoted-printable\r\n\r\n",
		"2": "\x89PNG\r\n", "2.MIME": "Content-Disposition: attachment\r\nContent-Type: image/png; name=\"a b\"; x\r\n\r\n",
		"2.1": "\x89PNG\r\n", "2.1.MIME": "Content-Disposition: attachment\r\nContent-Type: image/png; name=\"a b\"; x\r\n\r\n",
	}
	for spec, want := range told {
		if got, ok := Section(letter, spec); got != want || !ok {
			t.Errorf("Section %q is %q %v, want %q", spec, got, ok, want)
		}
	}
	holdNone := func(spec string) {
		if got, ok := Section(letter, spec); ok || got != "" {
			t.Errorf("Section %q is %q %v", spec, got, ok)
		}
	}
	for _, spec := range []string{
		"3", "0", "1.0", "1.3", "2.2", "1.1.2", "2.1.1", "1.1.1.1", "1.1.1.1.MIME", "3.MIME", "2.2.MIME", "0.MIME", "2.0", "1.0.1",
		"01", "1.01", "001", "00", "+1", "-1", "1e0", "0x1", "1_", "\u0661", "\u00b9", "4294967296", "4294967297", "18446744073709551617", "99999999999", "4294967295",
		" ", " 1", "1 ", "1 .1", "1. 1", "1\n", "1\x00", "\"1\"", "a", ".", "..", ".1", "1.", "1..1", "1..MIME", ".MIME", "..MIME", "1.MIME.", ".1.MIME", "1,1", "1:1", "1-2", "*", "$",
		"MIME", "mime", "1.mime", "1.Mime", "1MIME", "1.MIME.MIME", "1.MIME.1", "MIME.1", "HEADER.MIME", "TEXT.MIME", "1.MIMEX", "1.MIM",
		"header", "Header", "text", "Text", "tEXT", "HEADER ", " TEXT", "HEADERS", "HEADE", "TEXTS", "TEX", "HEADERTEXT", "HEADER.TEXT", "HEADER.1", "1.HEADER", "1.TEXT", "1.1.TEXT", "2.HEADER", "HEADER.FIELDS", "HEADER.FIELDS (DATE)", "BODY", "ALL", "[1]", "[]", "1<0.1>",
	} {
		holdNone(spec)
	}
	for c := range 256 {
		b := string([]byte{byte(c)})
		for spec := range told {
			for at := range len(spec) + 1 {
				holdSection(t, letter, spec[:at]+b+spec[at:])
				if at < len(spec) {
					holdSection(t, letter, spec[:at]+b+spec[at+1:])
				}
			}
		}
	}
}

// 14.4: all rows of what a spec may be made of.
func TestSectionEach(t *testing.T) {
	deep := nested(6, "A: b\n\nc")
	messages := []string{"", "A: b\n\nc", letter, multi("z", "\na", multi("y", "B: c\n\nd", "\ne"), multi("x")), deep}
	var all []map[string]string
	for _, s := range messages {
		all = append(all, wantedSections(s))
	}
	found := make([]int, len(messages))
	eachRow("", []string{"1", "2", ".", ".1", ".MIME", "0", "HEADER", "TEXT", "x"}, 5, func(spec string) {
		for i, s := range messages {
			want, wanted := all[i][spec]
			got, ok := Section(s, spec)
			if got != want || ok != wanted {
				t.Fatalf("Section(%q, %q) is %q %v, want %q %v", s, spec, got, ok, want, wanted)
			}
			if ok {
				found[i]++
			}
		}
	})
	if slices.Min(found) < 5 {
		t.Errorf("of these rows %d are sections", found)
	}
	// As deep as parts go, and one deeper: itself, once.
	path := strings.Repeat("1.", 6)
	for spec, want := range map[string]string{path[:11]: "c", path + "1": "c", path[:11] + ".MIME": "A: b\n\n", path + "1.MIME": "A: b\n\n"} {
		if got, ok := Section(deep, spec); got != want || !ok {
			t.Errorf("Section %q is %q %v, want %q", spec, got, ok, want)
		}
	}
	holdSection(t, deep, path+"1.1")
	holdSection(t, deep, path+"2")
}

// 14.4: each of as many parts as there are, and what is left out.
func TestSectionOfMany(t *testing.T) {
	var kids []string
	for i := range 40 {
		kids = append(kids, "N: "+strconv.Itoa(i+1)+"\n\nbody "+strconv.Itoa(i+1))
	}
	s := multi("z", kids...)
	for n := range 45 {
		spec := strconv.Itoa(n)
		got, ok := Section(s, spec)
		head, okHead := Section(s, spec+".MIME")
		if there := n >= 1 && n < api.MaxParts; ok != there || okHead != there {
			t.Errorf("part %d: %v, %v", n, ok, okHead)
		} else if there && (got != "body "+spec || head != "N: "+spec+"\n\n") {
			t.Errorf("part %d is %q, %q", n, got, head)
		}
	}
	holdSections(t, s)
}

// 14.4: bytes put in at each place, and rows of any pieces.
func TestSectionAny(t *testing.T) {
	eachTurned(letter, "\n -z", func(s string) { holdSections(t, s) })
	r := rand.New(rand.NewSource(145))
	specs := []string{"1", "2", "3", "10", "0", ".", ".1", ".2", ".MIME", "HEADER", "TEXT", "MIME", "x", " "}
	for range 4000 {
		s := anyMail(r)
		holdSections(t, s)
		holdSection(t, s, anyRow(r, specs, 6))
	}
}
