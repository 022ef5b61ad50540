package part

import (
	"encoding/base64"
	"fmt"
	"go/ast"
	"go/parser"
	"go/token"
	"math"
	"math/rand"
	"regexp"
	"slices"
	"strings"
	"testing"
	"unsafe"

	"pillarbox/api"
)

// list is parameters by their names and values, in turn.
func list(texts ...string) []api.Field {
	var l []api.Field
	for i := 0; i < len(texts); i += 2 {
		l = append(l, api.Field{Name: texts[i], Value: texts[i+1]})
	}
	return l
}

// shown is the beginning of what a test speaks of.
func shown(what any) string {
	s := fmt.Sprintf("%.200q", what)
	return s[:min(len(s), 400)]
}

// eachRow goes through all rows of some signs at most behind a text.
func eachRow(ahead string, signs []string, most int, do func(s string)) {
	do(ahead)
	if most == 0 {
		return
	}
	for _, sign := range signs {
		eachRow(ahead+sign, signs, most-1, do)
	}
}

// eachTurned goes through s with each byte at each place, put in or in the place of another one, and through what each two places cut off s and out of it.
func eachTurned(s string, do func(s string)) {
	for at := range len(s) + 1 {
		for c := range 256 {
			put := s[:at] + string([]byte{byte(c)})
			do(put + s[at:])
			if at < len(s) {
				do(put + s[at+1:])
			}
		}
		for to := at; to <= len(s); to++ {
			do(s[at:to])
			do(s[:at] + s[to:])
		}
	}
}

// anyRow is a row of fewer pieces than most.
func anyRow(r *rand.Rand, pieces []string, most int) string {
	var b strings.Builder
	for range r.Intn(most) {
		b.WriteString(pieces[r.Intn(len(pieces))])
	}
	return b.String()
}

// 13.3: what a part's octets tell, by its Enc alone.
func TestContent(t *testing.T) {
	for _, c := range []struct{ enc, octets, want string }{
		{"base64", "YWJj", "abc"},
		{"base64", "YW\r\nJ j=ZZZZ", "abc"}, // Loose
		{"base64", "", ""},
		{"base64", "\xff?", ""},
		{"base64", "--z\r\n", base64Of("--z\r\n")},
		{"quoted-printable", "a=3Db=\r\nc=\nd=4", "a=bcd=4"},
		{"quoted-printable", "a_b = ", "a_b = "},
		{"quoted-printable", "", ""},
		{"7bit", "a=3Db\r\n", "a=3Db\r\n"},
		{"8bit", "\xff\x00", "\xff\x00"},
		{"", "YQ==", "YQ=="},
		{"binary", "YQ==", "YQ=="},
		{"BASE64", "YQ==", "YQ=="}, // sizes of letters count: Tree tells small ones
		{"Quoted-Printable", "=41", "=41"},
		{"base64 ", "YQ==", "YQ=="},
		{" base64", "YQ==", "YQ=="},
		{"base64;", "YQ==", "YQ=="},
		{"x-base64", "YQ==", "YQ=="},
		{"base", "YQ==", "YQ=="},
		{"quoted", "=41", "=41"},
		{"quoted-printables", "=41", "=41"},
	} {
		for _, around := range [][2]string{{"", ""}, {"YQ==", "YQ=="}, {"=", "41"}, {"=4", "1"}, {"\n", "\r\n"}, {"A: b\n\n", "="}} {
			s := around[0] + c.octets + around[1]
			at := len(around[0])
			for _, p := range []api.Part{
				{Enc: c.enc, From: at, To: at + len(c.octets)},
				{Enc: c.enc, From: at, To: at + len(c.octets), Type: "multipart/x", Params: list("boundary", "z"), Attach: true, Head: -5, Kids: make([]api.Part, 2)},
			} {
				if got := Content(s, p); got != c.want {
					t.Errorf("Content(%q, %+v) is %q, want %q", s, p, got, c.want)
				}
			}
		}
	}
}

// base64Of is what the library reads of the letters of s.
func base64Of(s string) string {
	letters := regexp.MustCompile(`[^A-Za-z0-9+/]`).ReplaceAllString(s, "")
	b, _ := base64.RawStdEncoding.DecodeString(letters)
	return string(b)
}

// 13.3: of parts of a message.
func TestContentOfTree(t *testing.T) {
	const s = "Content-Type: multipart/x; boundary=z\nContent-Transfer-Encoding: quoted-printable\n\n=41\n--z\n" +
		"Content-Transfer-Encoding: base64\n\nYWJj\r\nZA==\n--z\ncontent-transfer-encoding: \tQUOTED-printable \n\na=\n=62\n--z\n\n=41YQ==\n--z\nContent-Transfer-Encoding:\n\n=41\n--z--\n"
	p := holdAll(t, s)
	var got []string
	for _, k := range p.Kids {
		got = append(got, Content(s, k))
	}
	if want := []string{"abcd", "ab", "=41YQ==", "=41"}; !slices.Equal(got, want) {
		t.Errorf("the kids say %q, want %q", got, want)
	}
	if got := Content(s, p); !strings.HasPrefix(got, "A\n--z\n") || !strings.Contains(got, "\n\nab\n") {
		t.Errorf("the message says %q", got)
	}
}

// 13.3, R3: places that there are not, and places turned round, tell nothing.
func TestContentBeyond(t *testing.T) {
	places := []int{math.MinInt, math.MinInt + 1, math.MinInt32, math.MaxInt32, 1 << 32, math.MaxInt - 1, math.MaxInt}
	for n := -8; n <= 8; n++ {
		places = append(places, n)
	}
	for _, s := range []string{"", "Y", "YWJj", "=41x"} {
		for _, enc := range []string{"", "7bit", "base64", "quoted-printable"} {
			for _, from := range places {
				for _, to := range places {
					want := ""
					if 0 <= from && from <= to && to <= len(s) {
						want = Content(s[from:to], api.Part{Enc: enc, To: to - from})
						if enc == "" && want != s[from:to] {
							t.Errorf("of %q from %d to %d: %q", s, from, to, want)
						}
					}
					if got := Content(s, api.Part{Enc: enc, From: from, To: to}); got != want {
						t.Errorf("Content of %q %s from %d to %d is %q, want %q", s, enc, from, to, got, want)
					}
				}
			}
		}
	}
}

// inside says whether the bytes of a stand in those of b.
func inside(a, b string) bool {
	from := uintptr(unsafe.Pointer(unsafe.StringData(a)))
	to := uintptr(unsafe.Pointer(unsafe.StringData(b)))
	return a != "" && b != "" && to <= from && from < to+uintptr(len(b))
}

// turn writes into all lists of a part, their spare room too.
func turn(p *api.Part) {
	for i := range p.Kids {
		turn(&p.Kids[i])
	}
	params, kids := p.Params[:cap(p.Params)], p.Kids[:cap(p.Kids)]
	for i := range params {
		params[i] = api.Field{Name: "turned", Value: "turned"}
	}
	for i := len(p.Kids); i < len(kids); i++ {
		kids[i] = api.Part{Type: "turned"}
	}
}

// texts is all texts of a part.
func texts(p api.Part) []string {
	l := []string{p.Type, p.Enc}
	for _, f := range p.Params {
		l = append(l, f.Name, f.Value)
	}
	for _, k := range p.Kids {
		l = append(l, texts(k)...)
	}
	return l
}

// R3: what is told is new memory, spare room too, and no two lists share any; what is handed in stays as it is; R1: it is told again.
func TestNewMemory(t *testing.T) {
	kid := "content-type: a/b; c=d; e=\"f\"; g\ncontent-transfer-encoding: base64\n\nYWJj"
	s := multi("z", kid, multi("y", kid, kid, kid), kid, kid, kid)
	before := strings.Clone(s)
	want := wantedTree(before)
	one, two := hold(t, s, want), hold(t, s, want)
	for _, a := range append(texts(one), texts(two)...) {
		if inside(a, s) {
			t.Errorf("%q stands in what was handed in", a)
		}
	}
	for i := range one.Kids {
		turn(&one.Kids[i])
		for j := i + 1; j < len(one.Kids); j++ {
			if !same(one.Kids[j], want.Kids[j]) {
				t.Errorf("who writes into kid %d turns kid %d", i, j)
			}
		}
	}
	turn(&one)
	if !same(two, want) || s != before {
		t.Error("who writes into one turns another")
	}
	hold(t, s, want)
	for _, k := range two.Kids {
		for _, enc := range []string{"7bit", "base64", "quoted-printable"} {
			k.Enc = enc
			if a := Content(s, k); a == "" || inside(a, s) {
				t.Errorf("Content %s: %q stands in what was handed in", enc, a)
			}
		}
	}
	if !same(two, want) {
		t.Error("Content turns a part")
	}
	value := strings.Clone("a/b; c=d; e=\"f\\g\"; h")
	word, params := Values(value)
	_, others := Values(value)
	for _, f := range params {
		if inside(word, value) || inside(f.Name, value) || inside(f.Value, value) {
			t.Errorf("%q, %q stand in what was handed in", word, f)
		}
	}
	turn(&api.Part{Params: params})
	if !slices.Equal(others, list("c", "d", "e", "fg", "h", "")) || value != "a/b; c=d; e=\"f\\g\"; h" {
		t.Error("who writes into parameters turns others")
	}
}

// counters is how many closures of a file count up or down what stands outside of them.
func counters(file *ast.File) int {
	n := 0
	ast.Inspect(file, func(node ast.Node) bool {
		f, ok := node.(*ast.FuncLit)
		if !ok {
			return true
		}
		ast.Inspect(f.Body, func(inner ast.Node) bool {
			step, ok := inner.(*ast.IncDecStmt)
			if !ok {
				return true
			}
			if id, ok := step.X.(*ast.Ident); ok && id.Obj != nil && id.Obj.Pos() < f.Pos() {
				n++
			}
			return true
		})
		return true
	})
	return n
}

// The chapter's way: one closure counts the parts, and nothing else asks for their limit.
func TestCountedByClosure(t *testing.T) {
	file, err := parser.ParseFile(token.NewFileSet(), "part.go", nil, 0)
	if err != nil {
		t.Fatal(err)
	}
	inClosures, all := 0, 0
	ast.Inspect(file, func(node ast.Node) bool {
		isLimit := func(inner ast.Node) bool {
			s, ok := inner.(*ast.SelectorExpr)
			return ok && s.Sel.Name == "MaxParts"
		}
		if isLimit(node) {
			all++
		}
		if f, ok := node.(*ast.FuncLit); ok {
			ast.Inspect(f.Body, func(inner ast.Node) bool {
				if isLimit(inner) {
					inClosures++
				}
				return true
			})
		}
		return true
	})
	if n := counters(file); n != 1 || inClosures != 1 || all != 1 {
		t.Errorf("%d closures count; the limit is asked for %d times, %d of them in closures", n, all, inClosures)
	}
}
