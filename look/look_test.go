package look

import (
	"fmt"
	"go/ast"
	"go/parser"
	"go/token"
	"math/rand"
	"strings"
	"testing"
	"unsafe"
)

// letter is a message with whatever this package tells of one.
const letter = "Date: Fri, 20 Nov 2026 07:16:00 +0000\r\nSubject: =?utf-8?Q?=C3=A4?= \"x\"\r\nFrom: \"A, B\" <a@b>, c@d\r\nReply-To: <r>\r\nTo: G: e@f;\r\n" +
	"Message-Id: <1@x>\r\nContent-Type: multipart/mixed; boundary=z\r\n\r\npre\r\n" +
	"--z\r\nContent-Type: multipart/alternative; boundary=y\r\n\r\n" +
	"--y\r\nContent-Type: text/html; charset=\"utf-8\"\r\nContent-Transfer-Encoding: base64\r\n\r\nPGI+\r\n" +
	"--y\r\nContent-Transfer-Encoding: quoted-printable\r\n\r\n =C3=A4=\r\n \t b\r\n\r\n--y--\r\n" +
	"--z\r\nContent-Disposition: attachment\r\nContent-Type: image/png; name=\"a b\"; x\r\n\r\n\x89PNG\r\n\r\n--z--\r\npost"

// shown is the beginning of what a test speaks of.
func shown(what any) string {
	s := fmt.Sprintf("%.2000q", what)
	return s[:min(len(s), 4000)]
}

// eachRow goes through all rows of some signs at most behind a text.
func eachRow(ahead string, signs []string, most int, do func(s string)) {
	do(ahead)
	if most == 0 {
		return
	}
	for _, sign := range signs {
		eachRow(ahead+sign, signs, most-1, do)
	}
}

// eachTurned goes through s with some bytes at each place, put in or in the place of another one, and through s without what stands between each place and the next few.
func eachTurned(s, bytes string, do func(s string)) {
	for at := range len(s) + 1 {
		for i := range len(bytes) {
			put := s[:at] + bytes[i:i+1]
			do(put + s[at:])
			if at < len(s) {
				do(put + s[at+1:])
			}
		}
		do(s[:at])
		do(s[at:])
		for to := at; to <= min(len(s), at+9); to++ {
			do(s[:at] + s[to:])
		}
	}
}

// anyRow is a row of fewer pieces than most.
func anyRow(r *rand.Rand, pieces []string, most int) string {
	var b strings.Builder
	for range r.Intn(most) {
		b.WriteString(pieces[r.Intn(len(pieces))])
	}
	return b.String()
}

// mailPieces are what headers, and messages in parts, are made of.
var mailPieces = []string{
	"\n", "\r\n", "\n\n", "\r\n\r\n", " ", "\t", "a", ":", "\xff", "\u00e4", "\x00", "\"", "\\", "(", ")", "NIL",
	"Date: ", "Subject: ", "From: ", "Sender: ", "Reply-To: ", "To: ", "Cc: ", "Bcc: ", "In-Reply-To: ", "Message-Id: ",
	"a@b", "<c@d>", ",", ";", "=?utf-8?Q?=C3=A4?=", "=?iso-8859-1?B?5A==?=",
	"\n--z\n", "\r\n--z\r\n", "\n--y\n", "\n--z--\n", "\n--y--\n",
	"Content-Type: text/plain\n", "Content-Type: text/html; a=b\n", "Content-Type: image/png\n", "Content-Type: multipart/mixed; boundary=z\n\n--z\n", "Content-Type: multipart/related; boundary=y\n\n--y\n",
	"Content-Transfer-Encoding: base64\n", "Content-Transfer-Encoding: quoted-printable\n", "Content-Disposition: attachment\n", "w6Q=", "=C3=A4",
}

// anyMail is a message of such pieces, each other one of them in parts.
func anyMail(r *rand.Rand) string {
	s := anyRow(r, mailPieces, 60)
	if r.Intn(2) == 0 {
		return "Content-Type: multipart/mixed; boundary=z\n\n--z\n" + s
	}
	return s
}

// multi is a message in parts.
func multi(boundary string, kids ...string) string {
	s := "Content-Type: multipart/mixed; boundary=" + boundary + "\n\n"
	for _, k := range kids {
		s += "--" + boundary + "\n" + k + "\n"
	}
	return s + "--" + boundary + "--\n"
}

// nested is a message in that many others.
func nested(n int, s string) string {
	for i := range n {
		s = multi("b"+fmt.Sprint(i)+"e", s)
	}
	return s
}

// inside says whether the bytes of a stand in those of b.
func inside(a, b string) bool {
	from := uintptr(unsafe.Pointer(unsafe.StringData(a)))
	to := uintptr(unsafe.Pointer(unsafe.StringData(b)))
	return a != "" && b != "" && to <= from && from < to+uintptr(len(b))
}

// R1, R3: what is told is new memory, and the same again.
func TestNewMemory(t *testing.T) {
	for _, s := range []string{letter, "Subject: s\n\nbody", "Subject: =?utf-8?Q?s?=\n\nbody"} {
		s = strings.Clone(s)
		section := func(spec string) func(s string) string {
			return func(s string) string {
				got, ok := Section(s, spec)
				if !ok {
					t.Errorf("no section %q", spec)
				}
				return got
			}
		}
		for i, call := range []func(string) string{Envelope, Structure, Preview, Subject, section(""), section("HEADER"), section("TEXT"), section("1"), section("1.MIME")} {
			got := call(s)
			if got == "" || got != call(s) || inside(got, s) || inside(call(s), got) {
				t.Errorf("call %d of %q: %q", i, s, got)
			}
		}
	}
}

// R1: every call ends, and soon, of great messages.
func TestGreat(t *testing.T) {
	const n = 1 << 15
	for _, piece := range []string{
		"x", "\n", " ", "\xff", "\u00e4", "a b ", "Subject: x\n", "From: a@b\n", "From: ", "a@b, ", "\"", "(", "<", "\\", "=?utf-8?Q?a?= ", "=?", "--z\n", "Content-Type: a/b; ", ";a=b", "; a=\"\\\"\"",
	} {
		long := strings.Repeat(piece, n)
		for _, s := range []string{long, "\n" + long, "Subject: " + long, "From: " + long, "To: " + long + "\n\n" + long, "Content-Type: text/plain; " + long, multi("z", "\n"+long, long), nested(6, "\n"+long)} {
			holdEnvelope(t, s)
			holdStructure(t, s)
			holdPreview(t, s)
			holdSubject(t, s)
			for _, spec := range []string{"", "HEADER", "TEXT", "1", "2.MIME", "1.1.1.1.1.1.1"} {
				holdSection(t, s, spec)
			}
		}
	}
	for _, piece := range []string{"1", ".", "1.", ".MIME", "0", "MIME"} {
		holdSection(t, letter, strings.Repeat(piece, n))
		holdSection(t, letter, "1."+strings.Repeat(piece, n)+".MIME")
	}
}

// calls goes through the calls of a file by the name that is called.
func calls(node ast.Node, do func(name string)) {
	ast.Inspect(node, func(inner ast.Node) bool {
		c, ok := inner.(*ast.CallExpr)
		if !ok {
			return true
		}
		switch f := c.Fun.(type) {
		case *ast.Ident:
			do(f.Name)
		case *ast.SelectorExpr:
			do(f.Sel.Name)
		}
		return true
	})
}

// The chapter's way: a closure appends, and nothing else puts texts together.
func TestPutTogetherByClosure(t *testing.T) {
	file, err := parser.ParseFile(token.NewFileSet(), "look.go", nil, 0)
	if err != nil {
		t.Fatal(err)
	}
	all, inClosures := 0, 0
	calls(file, func(name string) {
		switch name {
		case "append":
			all++
		case "Join", "WriteString", "WriteByte", "Write", "Concat", "Repeat", "AppendInt", "copy":
			t.Errorf("%s puts texts together", name)
		}
	})
	ast.Inspect(file, func(node ast.Node) bool {
		switch n := node.(type) {
		case *ast.FuncLit:
			calls(n.Body, func(name string) {
				if name == "append" {
					inClosures++
				}
			})
		case *ast.BinaryExpr:
			if n.Op == token.ADD {
				t.Error("a sum puts texts together")
			}
		case *ast.AssignStmt:
			if n.Tok == token.ADD_ASSIGN {
				t.Error("a sum puts texts together")
			}
		}
		return true
	})
	if all != 1 || inClosures != 1 {
		t.Errorf("texts are appended at %d places, %d of them in closures", all, inClosures)
	}
}
