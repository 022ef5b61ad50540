package field

import (
	"fmt"
	"go/ast"
	"go/parser"
	"go/token"
	"math"
	"math/rand"
	"regexp"
	"slices"
	"strings"
	"testing"
	"unsafe"

	"pillarbox/api"
)

// list is fields by their names and values, in turn.
func list(texts ...string) []api.Field {
	var l []api.Field
	for i := 0; i < len(texts); i += 2 {
		l = append(l, api.Field{Name: texts[i], Value: texts[i+1]})
	}
	return l
}

// shown is the beginning of what is looked at, for what a test says.
func shown(what any) string {
	s := fmt.Sprintf("%.200q", what)
	return s[:min(len(s), 400)]
}

var (
	emptyLine = regexp.MustCompile(`(?m)^\r?\n`)
	fold      = regexp.MustCompile(`\r?\n([ \t])`)
	lineEnd   = regexp.MustCompile(`\r?\n`)
	whole     = regexp.MustCompile(`^([!-9;-~]+):[ \t]*((?s:.*?))[ \t]*$`)
)

// wanted is what Split must tell: it looks for the empty line ahead of all else, takes away the ends of lines that are gone on, and cuts at the others.
func wanted(s string, at, to int) ([]api.Field, int) {
	if at < 0 || to > len(s) || at > to {
		return nil, at
	}
	s, body := s[at:to], to
	if place := emptyLine.FindStringIndex(s); place != nil {
		s, body = s[:place[0]], at+place[1]
	}
	var l []api.Field
	for _, line := range lineEnd.Split(fold.ReplaceAllString(s, "$1"), -1) {
		if f := whole.FindStringSubmatch(line); f != nil {
			l = append(l, api.Field{Name: f[1], Value: f[2]})
		}
	}
	return l, body
}

// hold holds Split against what it must tell.
func hold(t *testing.T, s string, at, to int, want []api.Field, wantBody int) {
	t.Helper()
	got, body := Split(s, at, to)
	if !slices.Equal(got, want) || body != wantBody {
		t.Fatalf("Split(%s, %d, %d) is %s, %d; want %s, %d", shown(s), at, to, shown(got), body, shown(want), wantBody)
	}
}

func holdAll(t *testing.T, s string, at, to int) {
	t.Helper()
	want, body := wanted(s, at, to)
	hold(t, s, at, to, want, body)
}

// 10.1: whole texts.
var headers = []struct {
	s    string
	want []api.Field
	body int
}{
	{"A: b\r\n c", list("A", "b c"), 8}, // the chapter's example
	{"A: b\r\n c\r\n", list("A", "b c"), 10},
	{"A: b\r\n c\r\n\r\nbody", list("A", "b c"), 12},
	{"From: Ann <ann@example.org>\r\nTo: bob@example.org\r\nSubject: Hello\r\n\r\nFrom: no header\r\n",
		list("From", "Ann <ann@example.org>", "To", "bob@example.org", "Subject", "Hello"), 68},
	// Without fields.
	{"", nil, 0},
	{"\n", nil, 1},
	{"\r\n", nil, 2},
	{"\nA:b\n", nil, 1},
	{"\r\nA:b\n", nil, 2},
	{"\n\n\n", nil, 1},
	{"body alone", nil, 10},
	{"body alone\n", nil, 11},
	// Ends of lines.
	{"A:b", list("A", "b"), 3},
	{"A:b\n", list("A", "b"), 4},
	{"A:b\r\n", list("A", "b"), 5},
	{"A:b\r", list("A", "b\r"), 4}, // a line that ends at the end keeps it
	{"A:b\r\r", list("A", "b\r\r"), 5},
	{"A:b\r\r\n", list("A", "b\r"), 6}, // one alone is taken away
	{"A:b\r\r\r\n", list("A", "b\r\r"), 7},
	{"A:\rb\n", list("A", "\rb"), 5},
	{"A:b\rB:c\n", list("A", "b\rB:c"), 8}, // alone it ends no line
	{"A:b\n\rB:c\n", list("A", "b"), 9},
	{"A:b\nB:c\r\nC:d\n", list("A", "b", "B", "c", "C", "d"), 13},
	{"A:b\v\f\x85\u2028B:c\n", list("A", "b\v\f\x85\u2028B:c"), 13},
	// The empty line.
	{"A:b\n\nB:c\n", list("A", "b"), 5},
	{"A:b\n\r\nB:c\n", list("A", "b"), 6},
	{"A:b\n\r\r\nB:c\n\nd", list("A", "b", "B", "c"), 12}, // a 13 is left, so it isn't empty
	{"A:b\n\r", list("A", "b"), 5},
	{"A:b\n \n\tc\n\n", list("A", "b \tc"), 10},
	{"A:b\n \r\n\nB:c", list("A", "b"), 8},
	{"A:b\n\n c\n", list("A", "b"), 5},
	{"A:b\n\x00\nB:c\n\n", list("A", "b", "B", "c"), 11},
	// Lines that go on.
	{"A:b\n c\n\td\n", list("A", "b c\td"), 10},
	{"A:b \n  c\n", list("A", "b   c"), 9},
	{"A:\n b\n", list("A", "b"), 6},
	{"A:\n\n b\n", list("A", ""), 4},
	{"A:\r\n\tb\r\n \r\n", list("A", "b"), 11},
	{"A:b\n B:c\n", list("A", "b B:c"), 9},
	{"A:b\n \n \n \nC:d", list("A", "b", "C", "d"), 13},
	{"A:b\n \rc\n", list("A", "b \rc"), 8},
	{"A:b\n\vc\n", list("A", "b"), 7},
	{"A:b\n\u00a0c\n", list("A", "b"), 8},
	// The first line goes on nothing.
	{" A:b\n", nil, 5},
	{"\tA:b\n", nil, 5},
	{" A:b\n c\n\td:e\nB:f\n", list("B", "f"), 17},
	{" \nA:b\n", list("A", "b"), 6},
	{" \n:b\nA:b\n", list("A", "b"), 9},
	{" \n\nA:b\n", nil, 3},
	{" \r\n\tA:b\r\n\r\n", nil, 11},
	// Names.
	{":b\n", nil, 3},
	{": b\n A:c\n", nil, 9},
	{"A :b\n", nil, 5},
	{"A\t:b\n", nil, 5},
	{"A b:c\n", nil, 6},
	{"A\n :b\n", nil, 6}, // the blank of the line that goes on stands in the name
	{"A\n\t:b\n", nil, 6},
	{"A\r\n b:c\r\n", nil, 9},
	{"A\r:b\n", nil, 5},
	{"A\x00:b\n", nil, 5},
	{"\u00e4:b\n", nil, 5},
	{"A\x7f:b\n", nil, 5},
	{"\ufeffA:b\n", nil, 7},
	{"A\n", nil, 2},
	{"A\nB:c\n d\nE\n f\nG:h\n", list("B", "c d", "G", "h"), 18}, // a line that is none takes what goes on it along
	{"From ann Thu Jan  1 00:00:00 1970\nA:b\n", list("A", "b"), 38},
	{"!#$%&'*+-.^_`|~0aZ\"(),/;<=>?@[\\]{}:b\n", list("!#$%&'*+-.^_`|~0aZ\"(),/;<=>?@[\\]{}", "b"), 37},
	{strings.Repeat("x", 70000) + ":b\n", list(strings.Repeat("x", 70000), "b"), 70003},
	// Values.
	{"A:", list("A", ""), 2},
	{"A:\n", list("A", ""), 3},
	{"A: \t \n", list("A", ""), 6},
	{"A::\n", list("A", ":"), 4},
	{"A:b:c\n", list("A", "b:c"), 6},
	{"A: :b: \n", list("A", ":b:"), 8},
	{"A:\t b \t c\t \n", list("A", "b \t c"), 12},
	{"A:\vb\f\n", list("A", "\vb\f"), 6},
	{"A:\u00a0b\u2003\n", list("A", "\u00a0b\u2003"), 9},
	{"A: \r \n", list("A", "\r"), 6},
	{"A:b \r\r\n", list("A", "b \r"), 7},
	{"A:b \r", list("A", "b \r"), 5},
	{"A:\x00\n", list("A", "\x00"), 4},
	{"A:\xff\xc3\n", list("A", "\xff\xc3"), 5},
	{"A:=?utf-8?q?=E4?= \"x\" (y)\n", list("A", "=?utf-8?q?=E4?= \"x\" (y)"), 26},
	// Each is told, in its order, however often its name stands there.
	{"A:2\na:1\nA:2\nB:0\n", list("A", "2", "a", "1", "A", "2", "B", "0"), 16},
}

// 10.1
func TestSplit(t *testing.T) {
	for _, c := range headers {
		hold(t, c.s, 0, len(c.s), c.want, c.body)
		holdAll(t, c.s, 0, len(c.s))
	}
}

// 10.1: what stands around the octets is not looked at, and places are told from the beginning of s.
func TestSplitWithin(t *testing.T) {
	for _, c := range headers {
		for _, around := range [][2]string{{"X: y\n", "\nZ: z\n"}, {" ", "\n\n"}, {"A", ":"}, {"\r", "\n"}, {"\n\n", " x"}, {"\xc3", "\xa4"}} {
			s := around[0] + c.s + around[1]
			at := len(around[0])
			hold(t, s, at, at+len(c.s), c.want, at+c.body)
		}
	}
}

// 10.1: octets beyond s, or turned round.
func TestSplitBeyond(t *testing.T) {
	const s = "A:b\n\nB:c\n"
	far := []int{math.MinInt, math.MinInt + 1, math.MinInt32, math.MaxInt32, 1 << 32, math.MaxInt - 1, math.MaxInt}
	places := slices.Clone(far)
	for n := -20; n <= 20; n++ {
		places = append(places, n)
	}
	for _, s := range []string{s, "", "A", "A:b\r"} {
		for _, at := range places {
			for _, to := range places {
				if at < 0 || at > to || to > len(s) {
					if l, body := Split(s, at, to); l != nil || body != at {
						t.Errorf("Split(%q, %d, %d): %v, %d", s, at, to, l, body)
					}
				}
				holdAll(t, s, at, to)
			}
		}
	}
	hold(t, s, 0, 3, list("A", "b"), 3)
	hold(t, s, 0, 4, list("A", "b"), 4)
	hold(t, s, 0, 5, list("A", "b"), 5)
	hold(t, s, 0, 9, list("A", "b"), 5)
	hold(t, s, 1, 9, nil, 5)
	hold(t, s, 4, 9, nil, 5)
	hold(t, s, 5, 9, list("B", "c"), 9)
	hold(t, s, 6, 9, nil, 9)
	hold(t, s, 9, 9, nil, 9)
	hold(t, s, 4, 4, nil, 4)
	hold(t, s, 9, 10, nil, 9)
	hold(t, s, 10, 10, nil, 10)
	hold(t, s, 5, 4, nil, 5)
}

// 10.1: all octets of some texts.
func TestSplitEachPlace(t *testing.T) {
	for _, s := range []string{
		"From: a\r\n b\r\n\tc \r\n\r\nTo : d\nE\n f:g\nH:i \r\r\n \n:j\n\n\n",
		" x:y\n z\r\nAb:\r\n\r\n\n\r\rC::d\r\n \r\n\r\n",
	} {
		for at := range len(s) + 1 {
			for to := range len(s) + 1 {
				holdAll(t, s, at, to)
			}
		}
	}
}

// 10.1: all short rows of what counts.
func TestSplitEachShort(t *testing.T) {
	const signs = "A: \t\r\n"
	var each func(s string, left int)
	each = func(s string, left int) {
		holdAll(t, s, 0, len(s))
		if left == 0 {
			return
		}
		for i := range len(signs) {
			each(s+signs[i:i+1], left-1)
		}
	}
	each("", 7)
	for _, ahead := range []string{"A:b", "A:b\n ", "A:b\r\n", " A:", "A\n"} {
		each(ahead, 5)
	}
}

// 10.1: each byte at each place of two fields.
func TestSplitEachByte(t *testing.T) {
	const s = "Ab: cd\n e\nF:g\n\nH:i\n"
	for at := range len(s) + 1 {
		for c := range 256 {
			put := s[:at] + string([]byte{byte(c)})
			holdAll(t, put+s[at:], 0, len(s)+1)
			if at < len(s) {
				holdAll(t, put+s[at+1:], 0, len(s))
			}
		}
	}
	for c := range 256 {
		b := string([]byte{byte(c)})
		inName := c >= 33 && c <= 126 && c != ':'
		for _, name := range []string{b, b + "xy", "x" + b + "y", "xy" + b} {
			got, _ := Split(name+":v\n", 0, len(name)+3)
			if ok := len(got) == 1 && got[0] == (api.Field{Name: name, Value: "v"}); ok != inName {
				t.Errorf("name %q: %q", name, got)
			}
		}
		if c != 10 {
			want := strings.Trim(b, " \t")
			hold(t, "A:"+b, 0, 3, list("A", want), 3)
			hold(t, "A:v"+b+"w\n", 0, 6, list("A", "v"+b+"w"), 6)
		}
	}
}

// 10.1: rows of any pieces, at any places.
func TestSplitAny(t *testing.T) {
	r := rand.New(rand.NewSource(10))
	pieces := []string{"A", "Subject", ":", ": ", " ", "\t", "\r", "\n", "\r\n", "\r\n ", "\n\t", "\r\n\r\n", "b", "\u00e4", "\xff", "\x00", "B:c\n", "x-y: z w\r\n"}
	for range 200000 {
		var b strings.Builder
		for range r.Intn(20) {
			b.WriteString(pieces[r.Intn(len(pieces))])
		}
		s := b.String()
		at, to := 0, len(s)
		if r.Intn(3) == 0 {
			at, to = r.Intn(len(s)+3)-1, r.Intn(len(s)+3)-1
		}
		holdAll(t, s, at, to)
	}
}

// 10.1: every call ends soon (R1), of long lines, of many, and of many that go on one.
func TestSplitGreat(t *testing.T) {
	const n = 1 << 20
	long := strings.Repeat("x", n)
	hold(t, "A:"+long, 0, n+2, list("A", long), n+2)
	hold(t, long, 0, n, nil, n)
	hold(t, strings.Repeat(" ", n), 0, n, nil, n)
	hold(t, "A:"+strings.Repeat(" ", n), 0, n+2, list("A", ""), n+2)
	hold(t, "A:"+strings.Repeat("\n ", n)+"b", 0, 2*n+3, list("A", "b"), 2*n+3)
	hold(t, "A:"+strings.Repeat("\n b", n)+"\n\n", 0, 3*n+4, list("A", strings.Repeat(" b", n)[1:]), 3*n+4)
	hold(t, "\n"+strings.Repeat("A:b\n", n), 0, 4*n+1, nil, 1)
	hold(t, strings.Repeat("\r", n), 0, n, nil, n)
	hold(t, strings.Repeat("A\n", n), 0, 2*n, nil, 2*n)
	hold(t, strings.Repeat(" A:b\n", n), 0, 5*n, nil, 5*n)
	var many []api.Field
	for range n {
		many = append(many, api.Field{Name: "A", Value: "b"})
	}
	hold(t, strings.Repeat("A:b\r\n", n)+"\r\n", 0, 5*n+2, many, 5*n+2)
}

// 10.2
func TestFirst(t *testing.T) {
	l := list("Subject", "one", "To", "", "SUBJECT", "two", "to", "three", "X-[", "four", "\u00c4", "five", "K", "six", "", "seven", "A\xff", "eight")
	for _, c := range []struct {
		name, want string
		ok         bool
	}{
		{"Subject", "one", true},
		{"subject", "one", true},
		{"SUBJECT", "one", true},
		{"sUbJeCt", "one", true},
		{"To", "", true}, // a Value without a byte is one
		{"TO", "", true},
		{"tO", "", true},
		{"x-[", "four", true},
		{"X-{", "", false}, // letters alone have sizes
		{"\u00c4", "five", true},
		{"\u00e4", "", false},
		{"k", "six", true},
		{"\u212a", "", false}, // whose small letter is k in Unicode
		{"", "seven", true},
		{"a\xff", "eight", true},
		{"a\xfe", "", false},
		{"a\ufffd", "", false},
		{"Subjec", "", false},
		{"Subjects", "", false},
		{"ubject", "", false},
		{" Subject", "", false},
		{"Subject ", "", false},
		{"Subject:", "", false},
		{"one", "", false},
		{"From", "", false},
		{strings.Repeat("x", 1<<20), "", false},
	} {
		if got, ok := First(l, c.name); got != c.want || ok != c.ok {
			t.Errorf("First(l, %.20q): %q, %v, want %q, %v", c.name, got, ok, c.want, c.ok)
		}
	}
}

// 10.2: the first one counts, whatever stands behind it, and however it is written.
func TestFirstOfMany(t *testing.T) {
	l := list("b", "0", "aa", "1", "Aa", "2", "aA", "3", "AA", "4")
	for i := 1; i < len(l); i++ {
		for _, name := range []string{"aa", "Aa", "aA", "AA"} {
			if got, ok := First(l[i:], name); got != l[i].Value || !ok {
				t.Errorf("First(l[%d:], %s): %q, %v", i, name, got, ok)
			}
		}
	}
	for _, l := range [][]api.Field{nil, {}, l[:1], l[:0]} {
		for _, name := range []string{"", "aa"} {
			if got, ok := First(l, name); got != "" || ok {
				t.Errorf("First(%q, %q): %q, %v", l, name, got, ok)
			}
		}
	}
	if got, ok := First(make([]api.Field, 3), ""); got != "" || !ok {
		t.Errorf("First of fields without names: %q, %v", got, ok)
	}
	if got, ok := First(append(make([]api.Field, 1<<16), api.Field{Name: "A", Value: "b"}), "a"); got != "b" || !ok {
		t.Errorf("First of many: %q, %v", got, ok)
	}
}

// 10.2: of each two bytes, letters of either size alone are one.
func TestFirstEachByte(t *testing.T) {
	for c := range 256 {
		for d := range 256 {
			one := c == d || c >= 'A' && c <= 'Z' && d == c+32 || d >= 'A' && d <= 'Z' && c == d+32
			l := list("x"+string([]byte{byte(c)}), "v")
			got, ok := First(l, "X"+string([]byte{byte(d)}))
			if ok != one || (got == "v") != one {
				t.Errorf("bytes %d and %d: %q, %v", c, d, got, ok)
			}
		}
	}
}

// 10.1, 10.2: what Split tells is what First is asked for.
func TestFirstOfSplit(t *testing.T) {
	const s = "Received: by a\r\nFrom: ann\r\nReceived: by\r\n b\r\nnone\r\n\r\nTo: bob\r\n"
	l, body := Split(s, 0, len(s))
	if s[body:] != "To: bob\r\n" {
		t.Errorf("the body is %q", s[body:])
	}
	a, ok := First(l, "received")
	b, ok2 := First(l[1:], "RECEIVED")
	c, ok3 := First(l, "To")
	if a != "by a" || !ok || b != "by b" || !ok2 || c != "" || ok3 {
		t.Errorf("First: %q %v, %q %v, %q %v", a, ok, b, ok2, c, ok3)
	}
}

// within says whether the bytes of a stand in those of b.
func within(a, b string) bool {
	from := uintptr(unsafe.Pointer(unsafe.StringData(a)))
	to := uintptr(unsafe.Pointer(unsafe.StringData(b)))
	return a != "" && b != "" && to <= from && from < to+uintptr(len(b))
}

// R3: what is told is new memory, spare room too; what is handed in stays as it is; R1: it is told again.
func TestNewMemory(t *testing.T) {
	s := strings.Clone("Aa: bb\r\nCc: dd\r\n\tee\r\nFf: \r\n\r\nbody")
	before := strings.Clone(s)
	want := list("Aa", "bb", "Cc", "dd\tee", "Ff", "")
	one, _ := Split(s, 0, len(s))
	two, _ := Split(s, 0, len(s))
	for _, f := range append(slices.Clone(one), two...) {
		if within(f.Name, s) || within(f.Value, s) {
			t.Errorf("%q stands in what was handed in", f)
		}
	}
	one = one[:cap(one)]
	for i := range one {
		one[i] = api.Field{Name: "turned", Value: "turned"}
	}
	if !slices.Equal(two, want) || s != before {
		t.Error("who writes into one turns another")
	}
	hold(t, s, 0, len(s), want, 29)

	room := append(list("A", strings.Clone("bc")), list("A", "d", "E", "f")...)
	l := room[:1]
	got, _ := First(l, "a")
	if within(got, l[0].Value) {
		t.Error("First tells what was handed in")
	}
	if _, ok := First(l, "e"); ok || !slices.Equal(room, list("A", "bc", "A", "d", "E", "f")) {
		t.Error("First looks behind the list, or turns it")
	}
	l[0].Value = "turned"
	if got != "bc" {
		t.Error("what was told hangs on what was handed in")
	}
}

// The chapter's way: an iterator gives the lines, gives them again, and stops where it is told to.
func TestLines(t *testing.T) {
	const s = "xa\r\n\nb\r\r\n c\rd\n\r"
	texts, ends := []string{"a", "", "b\r", " c\rd", "\r"}, []int{4, 5, 9, 14, 15}
	all := lines(s, 1, len(s))
	for stop := range len(texts) + 1 {
		for range 2 {
			n := 0
			for line, next := range all {
				if n == stop {
					break
				}
				if line != texts[n] || next != ends[n] {
					t.Errorf("line %d: %q, %d", n, line, next)
				}
				n++
			}
			if n != stop {
				t.Errorf("%d lines of %d", n, stop)
			}
		}
	}
	for line := range lines(s, 3, 3) {
		t.Errorf("%q is no line", line)
	}
}

// iterators is the names of the functions in a file that give an iterator.
func iterators(file *ast.File) []string {
	var names []string
	for _, d := range file.Decls {
		f, ok := d.(*ast.FuncDecl)
		if !ok || f.Type.Results == nil {
			continue
		}
		ast.Inspect(f.Type.Results, func(node ast.Node) bool {
			if s, ok := node.(*ast.SelectorExpr); ok && strings.HasPrefix(s.Sel.Name, "Seq") {
				names = append(names, f.Name.Name)
			}
			return true
		})
	}
	return names
}

// The chapter's way: Split's lines come from an iterator, and from nothing else.
func TestLinesByIterator(t *testing.T) {
	file, err := parser.ParseFile(token.NewFileSet(), "field.go", nil, 0)
	if err != nil {
		t.Fatal(err)
	}
	names := iterators(file)
	ranged, ends := 0, 0
	ast.Inspect(file, func(node ast.Node) bool {
		switch n := node.(type) {
		case *ast.RangeStmt:
			if call, ok := n.X.(*ast.CallExpr); ok {
				if f, ok := call.Fun.(*ast.Ident); ok && slices.Contains(names, f.Name) {
					ranged++
				}
			}
		case *ast.BasicLit:
			if n.Value == `"\n"` || n.Value == `'\n'` {
				ends++
			}
		}
		return true
	})
	if len(names) != 1 || ranged != 1 || ends != 1 {
		t.Errorf("iterators %q, ranged over %d times; ends of lines are looked for %d times", names, ranged, ends)
	}
}
