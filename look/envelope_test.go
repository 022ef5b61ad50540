package look

import (
	"fmt"
	"math/rand"
	"net/mail"
	"regexp"
	"slices"
	"strconv"
	"strings"
	"testing"

	"pillarbox/addr"
	"pillarbox/api"
	"pillarbox/field"
)

// names are the headers of an envelope, in their order.
var names = []string{"Date", "Subject", "From", "Sender", "Reply-To", "To", "Cc", "Bcc", "In-Reply-To", "Message-Id"}

// isText says which of these are told as texts.
func isText(name string) bool {
	return slices.Contains([]string{"Date", "Subject", "In-Reply-To", "Message-Id"}, name)
}

// reader takes what IMAP tells from the left; what it can't take is a fault.
type reader struct {
	s     string
	fault string
}

// eat takes a text, if it stands there.
func (r *reader) eat(s string) bool {
	rest, ok := strings.CutPrefix(r.s, s)
	r.s = rest
	return ok
}

// must takes a text that has to stand there.
func (r *reader) must(s string) {
	if !r.eat(s) {
		r.fail("no " + s)
	}
}

func (r *reader) fail(why string) {
	if r.fault == "" {
		r.fault = fmt.Sprintf("%s at %.100q", why, r.s)
	}
	r.s = ""
}

var (
	inQuotes = regexp.MustCompile(`^"((?:[ !#-\[\]-~]|\\["\\])*)"`)
	literal  = regexp.MustCompile(`^\{(0|[1-9][0-9]*)\}\r\n`)
	digits   = regexp.MustCompile(`^(0|[1-9][0-9]*)`)
	slashes  = regexp.MustCompile(`\\(.)`)
	quotable = regexp.MustCompile(`^[ -~]{0,200}$`)
)

// text takes a text, told in just the one way that there is.
func (r *reader) text() string {
	if m := inQuotes.FindStringSubmatch(r.s); m != nil {
		r.s = r.s[len(m[0]):]
		s := slashes.ReplaceAllString(m[1], "$1")
		if len(s) > 200 {
			r.fail("a long text in quotes")
		}
		return s
	}
	m := literal.FindStringSubmatch(r.s)
	if m == nil {
		r.fail("no text")
		return ""
	}
	r.s = r.s[len(m[0]):]
	n, err := strconv.Atoi(m[1])
	if err != nil || n > len(r.s) {
		r.fail("a literal without its end")
		return ""
	}
	s := r.s[:n]
	if quotable.MatchString(s) {
		r.fail("a literal that may be in quotes")
	}
	r.s = r.s[min(n, len(r.s)):]
	return s
}

// number takes digits.
func (r *reader) number() int {
	m := digits.FindString(r.s)
	n, err := strconv.Atoi(m)
	if err != nil {
		r.fail("no number")
		return 0
	}
	r.s = r.s[len(m):]
	return n
}

// addresses takes addresses, one at least, or NIL.
func (r *reader) addresses() []api.Addr {
	if r.eat("NIL") {
		return nil
	}
	r.must("(")
	var l []api.Addr
	for len(l) == 0 || !r.eat(")") && r.fault == "" {
		r.must("(")
		var a api.Addr
		if !r.eat("NIL") {
			if a.Name = r.text(); a.Name == "" {
				r.fail("an empty name")
			}
		}
		r.must(" NIL ")
		a.Box = r.text()
		r.must(" ")
		a.Host = r.text()
		r.must(")")
		l = append(l, a)
	}
	return l
}

// told is what an envelope tells: texts by their headers (without one: none), and addresses.
type told struct {
	texts     map[string]string
	addresses map[string][]api.Addr
}

// readEnvelope reads an envelope that is told in just the one way that there is.
func readEnvelope(s string) (told, string) {
	e := told{map[string]string{}, map[string][]api.Addr{}}
	r := reader{s: s}
	ahead := "("
	for _, name := range names {
		r.must(ahead)
		ahead = " "
		if !isText(name) {
			e.addresses[name] = r.addresses()
		} else if !r.eat("NIL") {
			e.texts[name] = r.text()
		}
	}
	r.must(")")
	if r.s != "" {
		r.fail("more")
	}
	return e, r.fault
}

// wantedEnvelope is what an envelope must tell.
func wantedEnvelope(s string) told {
	e := told{map[string]string{}, map[string][]api.Addr{}}
	fields, _ := field.Split(s, 0, len(s))
	for _, f := range slices.Backward(fields) {
		for _, name := range names {
			switch {
			case !strings.EqualFold(f.Name, name):
			case isText(name):
				e.texts[name] = f.Value
			default:
				e.addresses[name] = addr.List(f.Value)
			}
		}
	}
	for _, name := range []string{"Sender", "Reply-To"} {
		if len(e.addresses[name]) == 0 {
			e.addresses[name] = e.addresses["From"]
		}
	}
	return e
}

// holdEnvelope holds an envelope against what it must tell.
func holdEnvelope(t *testing.T, s string) {
	t.Helper()
	got, fault := readEnvelope(Envelope(s))
	want := wantedEnvelope(s)
	if fault != "" {
		t.Fatalf("Envelope(%s): %s", shown(s), fault)
	}
	for _, name := range names {
		a, ok := got.texts[name]
		b, wanted := want.texts[name]
		if a != b || ok != wanted || !slices.Equal(got.addresses[name], want.addresses[name]) {
			t.Fatalf("Envelope(%s) tells of %s %s %v %s; want %s %v %s", shown(s), name, shown(a), ok, shown(got.addresses[name]), shown(b), wanted, shown(want.addresses[name]))
		}
	}
}

// told10 is an envelope with some things told, by their places; all else is NIL.
func told10(told map[int]string) string {
	var l []string
	for i := range 10 {
		if told[i] == "" {
			told[i] = "NIL"
		}
		l = append(l, told[i])
	}
	return "(" + strings.Join(l, " ") + ")"
}

// 14.1: envelopes.
func TestEnvelope(t *testing.T) {
	a := `((NIL NIL "a" "b"))`
	b := `((NIL NIL "c" "d"))`
	x200, x201 := strings.Repeat("x", 200), strings.Repeat("x", 201)
	for _, c := range []struct {
		s    string
		told map[int]string
	}{
		{"", map[int]string{}},
		{"\n", map[int]string{}},
		{"body", map[int]string{}},
		{"\nDate: d\nFrom: a@b\n", map[int]string{}},
		{"A: b\r\n\r\nSubject: s\r\nTo: a@b\r\n", map[int]string{}},
		// Each header in its place.
		{"Date: d", map[int]string{0: `"d"`}},
		{"Subject: d\n", map[int]string{1: `"d"`}},
		{"From: a@b\r\n", map[int]string{2: a, 3: a, 4: a}},
		{"Sender: a@b", map[int]string{3: a}},
		{"Reply-To: a@b", map[int]string{4: a}},
		{"To: a@b", map[int]string{5: a}},
		{"Cc: a@b", map[int]string{6: a}},
		{"Bcc: a@b", map[int]string{7: a}},
		{"In-Reply-To: <1@a>", map[int]string{8: `"<1@a>"`}},
		{"Message-Id: <1@a>", map[int]string{9: `"<1@a>"`}},
		{"mEsSaGe-iD: 1\nBCC: a@b\nDATE:d", map[int]string{9: `"1"`, 7: a, 0: `"d"`}},
		{"Message-Id: 9\nIn-Reply-To: 8\nBcc: a@b\nCc: c@d\nTo: a@b\nReply-To: c@d\nSender: a@b\nFrom: c@d\nSubject: 1\nDate: 0\n",
			map[int]string{0: `"0"`, 1: `"1"`, 2: b, 3: a, 4: b, 5: a, 6: b, 7: a, 8: `"8"`, 9: `"9"`}},
		{"Dates: d\nX-Subject: d\nFro: a@b\nReplyTo: a@b\nTo : a@b\n Cc: a@b\nMessageId: 1\nIn-Reply: 1\nResent-From: a@b\nReferences: x", map[int]string{}},
		// The first one counts.
		{"Subject: a\nsubject: b\nFrom: a@b\nFrom: c@d", map[int]string{1: `"a"`, 2: a, 3: a, 4: a}},
		{"Subject:\nSubject: b\nFrom:\nFrom: c@d\nTo: ,\nTo: a@b", map[int]string{1: `""`}},
		{"Sender:\nSender: c@d\nFrom: a@b", map[int]string{2: a, 3: a, 4: a}},
		// Texts.
		{"Date:\nSubject: \t\nIn-Reply-To: \r\nMessage-Id:", map[int]string{0: `""`, 1: `""`, 8: `""`, 9: `""`}},
		{"Subject: \t a  b \t", map[int]string{1: `"a  b"`}},
		{"Subject: a\r\n\tb\r\n  c\r\n", map[int]string{1: "{6}\r\na\tb  c"}},
		{"Subject: a\r\n b\r\n  c\r\n", map[int]string{1: `"a b  c"`}},
		{`Subject: "a\b"`, map[int]string{1: `"\"a\\b\""`}},
		{"Subject: NIL", map[int]string{1: `"NIL"`}},
		{"Subject: (a) {1}", map[int]string{1: `"(a) {1}"`}},
		{"Subject: =?utf-8?Q?a?=", map[int]string{1: `"=?utf-8?Q?a?="`}}, // told as it stands
		{"Date: \u00e4", map[int]string{0: "{2}\r\n\u00e4"}},
		{"Date: \xff", map[int]string{0: "{1}\r\n\xff"}},
		{"Message-Id: a\x00b\x7f", map[int]string{9: "{4}\r\na\x00b\x7f"}},
		{"In-Reply-To: <a>\n <b>", map[int]string{8: `"<a> <b>"`}},
		{"Subject: " + x200, map[int]string{1: `"` + x200 + `"`}},
		{"Subject: " + x201, map[int]string{1: "{201}\r\n" + x201}},
		// Addresses.
		{"To: a@b, c@d", map[int]string{5: `((NIL NIL "a" "b")(NIL NIL "c" "d"))`}},
		{"To: A B <a@b>; \"C\" <c@d>,,e", map[int]string{5: `(("A B" NIL "a" "b")("C" NIL "c" "d")(NIL NIL "e" ""))`}},
		{"To: G: a@b, c@d;", map[int]string{5: `((NIL NIL "a" "b")(NIL NIL "c" "d"))`}},
		{"To: <@b>", map[int]string{5: `((NIL NIL "" "b"))`}},
		{"To: a@", map[int]string{5: `((NIL NIL "a" ""))`}},
		{"To: \"\" <a@b>", map[int]string{5: a}},
		{"To: (a remark) <a@b>", map[int]string{5: a}},
		{"To: NIL <NIL@NIL>", map[int]string{5: `(("NIL" NIL "NIL" "NIL"))`}},
		{`To: "\"A\\ \"" <"a"@b\c>`, map[int]string{5: `(("\"A\\ \"" NIL "\"a\"" "b\\c"))`}},
		{"To: =?utf-8?Q?=C3=A4?= <=?utf-8?Q?a?=@b>", map[int]string{5: "(({2}\r\n\u00e4 NIL \"=?utf-8?Q?a?=\" \"b\"))"}},
		{"To: =?utf-8?Q??= <a@b>", map[int]string{5: a}}, // the name says nothing
		{"To: =?utf-8?Q?_?= <a@b>", map[int]string{5: `((" " NIL "a" "b"))`}},
		{"To: \xff <\xfe@\xfd>", map[int]string{5: "(({1}\r\n\xff NIL {1}\r\n\xfe {1}\r\n\xfd))"}},
		{"To: " + x200 + " <" + x201 + "@" + x200 + ">", map[int]string{5: `(("` + x200 + "\" NIL {201}\r\n" + x201 + ` "` + x200 + `"))`}},
		{"To: a@b,\r\n\tc@d\r\n", map[int]string{5: `((NIL NIL "a" "b")(NIL NIL "c" "d"))`}},
		{"To: a@b, a@b", map[int]string{5: `((NIL NIL "a" "b")(NIL NIL "a" "b"))`}},
		// None of them.
		{"To:\nCc: ,;\nBcc: (a@b)\nReply-To: <>\nSender: undisclosed:;", map[int]string{}},
		{"From: ,\nSender: c@d", map[int]string{3: b}},
		{"From: \nReply-To: c@d", map[int]string{4: b}},
		// Those of From alone take the place of none, and of Sender's and Reply-To's alone.
		{"From: a@b\nSender: c@d", map[int]string{2: a, 3: b, 4: a}},
		{"From: a@b\nReply-To: c@d", map[int]string{2: a, 3: a, 4: b}},
		{"From: a@b\nSender: c@d\nReply-To: c@d", map[int]string{2: a, 3: b, 4: b}},
		{"Sender: ,\nReply-To: <>\nTo:\nCc:\nBcc:\nFrom: a@b, \"C\" <c@d>", map[int]string{
			2: `((NIL NIL "a" "b")("C" NIL "c" "d"))`, 3: `((NIL NIL "a" "b")("C" NIL "c" "d"))`, 4: `((NIL NIL "a" "b")("C" NIL "c" "d"))`}},
		{"Sender: c@d\nReply-To: (x)\nTo: c@d", map[int]string{3: b, 5: b}},
	} {
		for _, behind := range []string{"", "\n\nFrom: x@y\nDate: x\n", "\r\n\r\n\x00"} {
			if got, want := Envelope(c.s+behind), told10(c.told); got != want {
				t.Errorf("Envelope(%q) is\n%q, want\n%q", c.s+behind, got, want)
			}
			holdEnvelope(t, c.s+behind)
		}
		holdEnvelope(t, "\n"+c.s)
	}
}

// 14.1: each header with values of all kinds, each two of them.
func TestEnvelopeOfTwo(t *testing.T) {
	values := []string{"", "a", "a@b", "A <a@b>, \"B\" <c@d>", ",", "<>", "\"a\\", "\u00e4\xff", strings.Repeat("a@b,", 51), strings.Repeat("a", 200) + " <a@b>"}
	for _, one := range append(slices.Clone(names), "X-Other") {
		for _, two := range names {
			for _, a := range values {
				for _, b := range values {
					holdEnvelope(t, one+": "+a+"\n"+two+": "+b+"\n")
					holdEnvelope(t, strings.ToUpper(one)+":"+a+"\r\n"+strings.ToLower(two)+":"+b+"\r\n\r\n"+one+":"+b)
				}
			}
		}
	}
}

// 14.1: each byte, and each length up to beyond what may stand in quotes, of each text that is told.
func TestEnvelopeTexts(t *testing.T) {
	hold := func(v string) {
		for _, name := range names {
			holdEnvelope(t, name+": "+v+"\n")
		}
		for _, ahead := range []string{"", "<", "\"", "\"\\", "A <", "A <a@", "<@"} {
			holdEnvelope(t, "Cc: "+ahead+v)
		}
	}
	for c := range 256 {
		b := string([]byte{byte(c)})
		hold("x" + b + "y")
		hold(b)
	}
	for n := range 250 {
		hold(strings.Repeat("a", n))
		hold(strings.Repeat("\\\"", n))
		hold(strings.Repeat("\u00e4", n))
	}
}

// 14.1: bytes put in at each place, and rows of any pieces.
func TestEnvelopeAny(t *testing.T) {
	const s = "Date: d\nSubject: \"s\\\"\r\nFrom: \"A\" <a@b>, (x) c@d\nSender: G:;\nReply-To: <e>\r\n\tTo: f\nTo: =?utf-8?Q?=C3?= g\nMessage-Id: h\n\nDate: x"
	eachTurned(s, "\n\r \t:\"\\()<>,;@aT\x00\xff", func(s string) { holdEnvelope(t, s) })
	r := rand.New(rand.NewSource(141))
	for range 30000 {
		holdEnvelope(t, anyRow(r, mailPieces, 40))
	}
}

// 14.1: what the library tells of addresses is told as it had them.
func TestEnvelopeOfTold(t *testing.T) {
	r := rand.New(rand.NewSource(142))
	const signs = "aZ09 .,;:<>()[]@\\\"\u00e4"
	for range 5000 {
		var l []string
		var want []api.Addr
		for range 1 + r.Intn(4) {
			name := anyRow(r, strings.Split(signs, ""), 12)
			a := api.Addr{Name: name, Box: "box" + strconv.Itoa(r.Intn(9)), Host: "host" + strconv.Itoa(r.Intn(9))}
			l = append(l, (&mail.Address{Name: a.Name, Address: a.Box + "@" + a.Host}).String())
			want = append(want, a)
		}
		s := "From: " + strings.Join(l, ",\r\n ") + "\r\n\r\n"
		got, fault := readEnvelope(Envelope(s))
		if fault != "" {
			t.Fatalf("Envelope(%q): %s", s, fault)
		}
		for _, name := range []string{"From", "Sender", "Reply-To"} {
			if !slices.Equal(got.addresses[name], want) {
				t.Fatalf("Envelope(%q) tells of %s %q, want %q", s, name, got.addresses[name], want)
			}
		}
	}
}
