package flag

import (
	"fmt"
	"go/ast"
	"go/parser"
	"go/token"
	"maps"
	"math/rand"
	"regexp"
	"slices"
	"strconv"
	"strings"
	"testing"
	"unsafe"

	"pillarbox/api"
)

// five are the keywords that IMAP has flags of its own for.
var five = map[string]string{
	"$answered": `\Answered`,
	"$flagged":  `\Flagged`,
	"$deleted":  `\Deleted`,
	"$seen":     `\Seen`,
	"$draft":    `\Draft`,
}

// right is what a keyword looks like.
var right = regexp.MustCompile(`\A[!#$&'+,\-./0-9:;<=>?@\[^_` + "`" + `a-z|~]{1,64}\z`)

// shown is the beginning of what a test speaks of.
func shown(what any) string {
	return fmt.Sprintf("%.200q", what)
}

// eachTurned does something with each text that is one byte away from s: put in, put in another's place, taken off.
func eachTurned(s string, do func(s string)) {
	for at := range len(s) + 1 {
		for c := range 256 {
			do(s[:at] + string([]byte{byte(c)}) + s[at:])
			if at < len(s) {
				do(s[:at] + string([]byte{byte(c)}) + s[at+1:])
			}
		}
		if at < len(s) {
			do(s[:at] + s[at+1:])
		}
	}
}

// eachRow does something with each row of up to that many of the pieces.
func eachRow(pieces []string, most int, do func(l []string)) {
	var more func(l []string)
	more = func(l []string) {
		do(l)
		if len(l) == most {
			return
		}
		for _, p := range pieces {
			more(append(slices.Clone(l), p))
		}
	}
	more(nil)
}

// eachSize does something with s, its letters great and small in each way.
func eachSize(s string, do func(s string)) {
	var more func(ahead, rest string)
	more = func(ahead, rest string) {
		if rest == "" {
			do(ahead)
			return
		}
		c := rest[0]
		more(ahead+string(c), rest[1:])
		if 'a' <= c && c <= 'z' {
			more(ahead+string(c-32), rest[1:])
		}
	}
	more("", s)
}

// inside says whether the bytes of a stand in those of b.
func inside(a, b string) bool {
	from := uintptr(unsafe.Pointer(unsafe.StringData(a)))
	to := uintptr(unsafe.Pointer(unsafe.StringData(b)))
	return a != "" && b != "" && to <= from && from < to+uintptr(len(b))
}

// small is s with the letters A to Z turned small.
func small(s string) string {
	b := []byte(s)
	for i, c := range b {
		if at := strings.IndexByte("ABCDEFGHIJKLMNOPQRSTUVWXYZ", c); at >= 0 {
			b[i] = "abcdefghijklmnopqrstuvwxyz"[at]
		}
	}
	return string(b)
}

// wantedKey is the keyword that a flag stands for; empty where there is none.
func wantedKey(flag string) string {
	for key, own := range five {
		if small(own) == small(flag) {
			return key
		}
	}
	if s := small(flag); right.MatchString(s) {
		return s
	}
	return ""
}

// wantedFlag is what a keyword is told by.
func wantedFlag(key string) string {
	if own, ok := five[key]; ok {
		return own
	}
	return key
}

// wantedKeys is what Keys must tell.
func wantedKeys(l []string) ([]string, api.Errno) {
	once := map[string]int{}
	for _, key := range l {
		if !right.MatchString(key) {
			return nil, api.ErrArg
		}
		once[key]++
	}
	if len(once) > 16 {
		return nil, api.ErrMany
	}
	return slices.Sorted(maps.Keys(once)), api.OK
}

// hold holds the calls of one text against what they must tell.
func hold(t *testing.T, s string) {
	t.Helper()
	if got, want := Right(s), right.MatchString(s); got != want {
		t.Fatalf("Right(%s) is %v", shown(s), got)
	}
	want := wantedKey(s)
	if got, ok := Key(s); got != want || ok != (want != "") {
		t.Fatalf("Key(%s) is %s, %v, want %s", shown(s), shown(got), ok, shown(want))
	}
	if got, want := Flag(s), wantedFlag(s); got != want {
		t.Fatalf("Flag(%s) is %s, want %s", shown(s), shown(got), shown(want))
	}
}

// holdAll holds the calls of a list against what they must tell.
func holdAll(t *testing.T, l []string) {
	t.Helper()
	given := slices.Clone(l)
	want, errWant := wantedKeys(l)
	if got, err := Keys(l); !slices.Equal(got, want) || err != errWant {
		t.Fatalf("Keys(%s) is %s, %d, want %s, %d", shown(l), shown(got), err, shown(want), errWant)
	}
	told, blank := "(", ""
	for _, key := range l {
		told += blank + wantedFlag(key)
		blank = " "
	}
	told += ")"
	if got := List(l); got != told {
		t.Fatalf("List(%s) is %s, want %s", shown(l), shown(got), shown(told))
	}
	if !slices.Equal(l, given) {
		t.Fatalf("%s was turned into %s", shown(given), shown(l))
	}
}

// 15.1: what may be a keyword.
func TestRight(t *testing.T) {
	for _, c := range []struct {
		key  string
		want bool
	}{
		{"a", true},
		{"$seen", true},
		{"seen", true},
		{"$", true},
		{"7", true},
		{"!#$&'+,-./0123456789:;<=>?@[^_`abcdefghijklmnopqrstuvwxyz|~", true},
		{strings.Repeat("a", 63), true},
		{strings.Repeat("a", 64), true},
		{strings.Repeat("~", 64), true},
		{"", false},
		{"A", false},
		{"aZ", false},
		{"$Seen", false},
		{" ", false},
		{"a b", false},
		{"a ", false},
		{" a", false},
		{`\seen`, false},
		{`\`, false},
		{"(", false},
		{"a)", false},
		{"{a", false},
		{"a}b", false},
		{"%", false},
		{"a*", false},
		{`"a"`, false},
		{"a]", false},
		{"a\n", false},
		{"\x00", false},
		{"a\x1f", false},
		{"\x7f", false},
		{"\x80", false},
		{"\u00e4", false},
		{"\xff", false},
		{strings.Repeat("a", 65), false},
		{strings.Repeat("a", 63) + "A", false},
		{strings.Repeat("a", 63) + " ", false},
		{strings.Repeat("a", 64) + " ", false},
		{strings.Repeat("\u00e4", 32), false},
	} {
		if got := Right(c.key); got != c.want {
			t.Errorf("Right(%s) is %v", shown(c.key), got)
		}
		hold(t, c.key)
	}
}

// 15.1: keywords that flags stand for.
func TestKey(t *testing.T) {
	for _, c := range []struct{ flag, want string }{
		{`\SEEN`, "$seen"}, // the chapter's example
		{`\Answered`, "$answered"},
		{`\Flagged`, "$flagged"},
		{`\Deleted`, "$deleted"},
		{`\Seen`, "$seen"},
		{`\Draft`, "$draft"},
		{`\dRaFt`, "$draft"},
		{"$Seen", "$seen"},
		{"$seen", "$seen"},
		{"$DRAFT", "$draft"},
		{"Seen", "seen"},
		{"$Forwarded", "$forwarded"},
		{"NonJunk", "nonjunk"},
		{"X-1[Y", "x-1[y"},
		{"@`Z", "@`z"},
		{strings.Repeat("A", 64), strings.Repeat("a", 64)},
		{"", ""},
		{`\`, ""},
		{`\\Seen`, ""},
		{`\ Seen`, ""},
		{` \Seen`, ""},
		{`\Seen `, ""},
		{`\Seen\`, ""},
		{`\See`, ""},
		{`\Seens`, ""},
		{`\$seen`, ""},
		{`$\seen`, ""},
		{`\Recent`, ""},
		{`\*`, ""},
		{`\Junk`, ""},
		{"\\\u017feen", ""}, // whose great letter is S in Unicode
		{"\\Seen\x00", ""},
		{"/Seen", "/seen"},
		{"a b", ""},
		{"\u00c4", ""},
		{"\u212a", ""}, // whose small letter is k in Unicode
		{"a]", ""},
		{"(a)", ""},
		{strings.Repeat("A", 65), ""},
		{`\` + strings.Repeat("a", 63), ""},
	} {
		if got, ok := Key(c.flag); got != c.want || ok != (c.want != "") {
			t.Errorf("Key(%s) is %s, %v, want %s", shown(c.flag), shown(got), ok, shown(c.want))
		}
		hold(t, c.flag)
	}
}

// 15.1: what keywords are told by, also what may be none.
func TestFlag(t *testing.T) {
	for _, c := range []struct{ key, want string }{
		{"$answered", `\Answered`},
		{"$flagged", `\Flagged`},
		{"$deleted", `\Deleted`},
		{"$seen", `\Seen`},
		{"$draft", `\Draft`},
		{"$Seen", "$Seen"}, // byte by byte
		{"$DRAFT", "$DRAFT"},
		{"seen", "seen"},
		{`\seen`, `\seen`},
		{`\Seen`, `\Seen`},
		{"$forwarded", "$forwarded"},
		{"$seen ", "$seen "},
		{"$see", "$see"},
		{"$", "$"},
		{"", ""},
		{"a b", "a b"},
		{"X\xff\x00", "X\xff\x00"},
		{strings.Repeat("a", 65), strings.Repeat("a", 65)},
	} {
		if got := Flag(c.key); got != c.want {
			t.Errorf("Flag(%s) is %s, want %s", shown(c.key), shown(got), shown(c.want))
		}
		hold(t, c.key)
	}
}

// 15.1: the five, in each size of their letters, and what is one byte away from them.
func TestEachOfFive(t *testing.T) {
	for key, own := range five {
		eachSize(small(own), func(s string) {
			if got, ok := Key(s); got != key || !ok {
				t.Errorf("Key(%s) is %s, %v", shown(s), shown(got), ok)
			}
			hold(t, s)
		})
		eachSize(key, func(s string) {
			if got, ok := Key(s); got != key || !ok {
				t.Errorf("Key(%s) is %s, %v", shown(s), shown(got), ok)
			}
			hold(t, s)
		})
		for _, s := range []string{key, own, small(own), strings.ToUpper(own)} {
			eachTurned(s, func(s string) { hold(t, s) })
		}
	}
}

// 15.1: each byte alone, each two, and each byte at each place of keys of each length.
func TestEachByte(t *testing.T) {
	for c := range 256 {
		hold(t, string([]byte{byte(c)}))
		for d := range 256 {
			hold(t, string([]byte{byte(c), byte(d)}))
		}
	}
	for n := range 150 {
		hold(t, strings.Repeat("a", n))
		hold(t, strings.Repeat("Z", n))
		hold(t, `\`+strings.Repeat("a", n))
	}
	for _, n := range []int{1, 2, 7, 62, 63, 64, 65} {
		eachTurned(strings.Repeat("a", n), func(s string) { hold(t, s) })
	}
}

// 15.1: Flag and Key go either way.
func TestThereAndBack(t *testing.T) {
	keys := []string{"a", "$a", "$", "x-1", strings.Repeat("~", 64)}
	for key, own := range five {
		keys = append(keys, key, key[1:])
		if got, ok := Key(own); !ok || Flag(got) != own {
			t.Errorf("%s is %s, %v, and that %s", own, got, ok, Flag(got))
		}
	}
	for _, key := range keys {
		eachTurned(key, func(s string) {
			got, ok := Key(Flag(s))
			if Right(s) && (got != s || !ok) {
				t.Errorf("%s is told by %s, and that is %s, %v", shown(s), shown(Flag(s)), shown(got), ok)
			}
			if got, ok := Key(s); ok && !Right(got) || !ok && got != "" {
				t.Errorf("Key(%s) is %s, %v", shown(s), shown(got), ok)
			}
		})
	}
}

// many is n keywords, none rising.
func many(n int) []string {
	var l []string
	for i := range n {
		l = append(l, "k"+strconv.Itoa(1000+n-i))
	}
	return l
}

// 15.2: lists of keywords.
func TestKeys(t *testing.T) {
	rising := many(16)
	slices.Reverse(rising)
	for _, c := range []struct {
		l    []string
		want []string
		err  api.Errno
	}{
		{nil, nil, api.OK},
		{[]string{}, nil, api.OK},
		{[]string{"a"}, []string{"a"}, api.OK},
		{[]string{"b", "a"}, []string{"a", "b"}, api.OK},
		{[]string{"a", "a"}, []string{"a"}, api.OK},
		{[]string{"b", "a", "b", "a", "b"}, []string{"a", "b"}, api.OK},
		{[]string{"seen", "$seen", "a", "~", "!", "ab", "a"}, []string{"!", "$seen", "a", "ab", "seen", "~"}, api.OK},
		{[]string{"a10", "a9", "a1"}, []string{"a1", "a10", "a9"}, api.OK},
		{many(16), rising, api.OK},
		{append(many(16), many(16)...), rising, api.OK},
		{append(many(16), "k1001", "k1001"), rising, api.OK},
		{many(17), nil, api.ErrMany},
		{append(many(16), "a"), nil, api.ErrMany},
		{append([]string{"~"}, many(16)...), nil, api.ErrMany},
		{many(100), nil, api.ErrMany},
		{[]string{""}, nil, api.ErrArg},
		{[]string{"a", "B"}, nil, api.ErrArg},
		{[]string{`\Seen`}, nil, api.ErrArg},
		{[]string{"a", "a b", "c"}, nil, api.ErrArg},
		{[]string{"$Seen", "$seen"}, nil, api.ErrArg},
		{[]string{strings.Repeat("a", 64)}, []string{strings.Repeat("a", 64)}, api.OK},
		{[]string{strings.Repeat("a", 65)}, nil, api.ErrArg},
		{append(many(16), "A"), nil, api.ErrArg},
		{append(many(100), ""), nil, api.ErrArg},
		{append([]string{"\u00e4"}, many(100)...), nil, api.ErrArg},
	} {
		got, err := Keys(c.l)
		if !slices.Equal(got, c.want) || err != c.err {
			t.Errorf("Keys(%s) is %s, %d, want %s, %d", shown(c.l), shown(got), err, shown(c.want), c.err)
		}
		if err != api.OK && got != nil {
			t.Errorf("Keys(%s) tells a list beside %d", shown(c.l), err)
		}
		holdAll(t, c.l)
	}
}

// 15.2: what lists of keywords are told by.
func TestList(t *testing.T) {
	for _, c := range []struct {
		keys []string
		want string
	}{
		{nil, "()"},
		{[]string{}, "()"},
		{[]string{"a"}, "(a)"},
		{[]string{"$seen"}, `(\Seen)`},
		{[]string{"$answered", "$flagged", "$deleted", "$seen", "$draft"}, `(\Answered \Flagged \Deleted \Seen \Draft)`},
		{[]string{"b", "$seen", "a", "b"}, `(b \Seen a b)`}, // in their order, each as often as it stands there
		{[]string{"$forwarded", "seen"}, "($forwarded seen)"},
		// What may be no keyword is told as it is.
		{[]string{""}, "()"},
		{[]string{"", ""}, "( )"},
		{[]string{"$Seen", `\seen`, "a b", "\xff"}, "($Seen \\seen a b \xff)"},
		{many(17), "(" + strings.Join(many(17), " ") + ")"},
	} {
		if got := List(c.keys); got != c.want {
			t.Errorf("List(%s) is %s, want %s", shown(c.keys), shown(got), shown(c.want))
		}
		holdAll(t, c.keys)
	}
}

// 15.2: each short row of keywords and of what is none.
func TestEachRow(t *testing.T) {
	eachRow([]string{"a", "b", "ab", "$seen", "$draft", "A", ""}, 5, func(l []string) { holdAll(t, l) })
}

// 15.2: what is wrong counts ahead of what is too much, at each place of lists around MaxKeys.
func TestEachPlace(t *testing.T) {
	for n := 14; n < 20; n++ {
		for at := range n + 1 {
			for _, s := range []string{"", "A", "a b", `\Seen`, "a", "$seen", "k1003", "~", strings.Repeat("k", 64), strings.Repeat("k", 65)} {
				holdAll(t, slices.Insert(many(n), at, s))
			}
		}
	}
}

// 15.2: any lists.
func TestAny(t *testing.T) {
	r := rand.New(rand.NewSource(15))
	pieces := slices.Concat(slices.Collect(maps.Keys(five)), many(14))
	slices.Sort(pieces)
	for range 50000 {
		var l []string
		for range r.Intn(40) {
			l = append(l, pieces[r.Intn(len(pieces))])
		}
		if r.Intn(4) == 0 {
			l = slices.Insert(l, r.Intn(len(l)+1), []string{"A", "", "\x7f", "a*"}[r.Intn(4)])
		}
		holdAll(t, l)
	}
}

// R3: what is told is new memory, and what is handed in stays, its spare room too.
func TestNewMemory(t *testing.T) {
	for _, s := range []string{"a", "$seen", "x-y", "Junk", `\Seen`} {
		s = strings.Clone(s)
		if got := Flag(s); inside(got, s) {
			t.Errorf("Flag(%s) shares memory with it", s)
		}
		if got, _ := Key(s); inside(got, s) {
			t.Errorf("Key(%s) shares memory with it", s)
		}
		if got := List([]string{s}); inside(got, s) || inside(s, got) {
			t.Errorf("List of %s shares memory with it", s)
		}
	}
	all := []string{strings.Clone("b"), strings.Clone("a"), strings.Clone("b"), "spare", "room"}
	l := all[:3]
	got, err := Keys(l)
	if err != api.OK || !slices.Equal(got, []string{"a", "b"}) || inside(got[0], l[1]) || inside(got[1], l[0]) || inside(got[1], l[2]) {
		t.Errorf("Keys(%s) is %s, %d", shown(l), shown(got), err)
	}
	again, _ := Keys(l)
	for _, told := range [][]string{got, again} {
		for i := range told[:cap(told)] {
			told[:cap(told)][i] = "other"
		}
		if !slices.Equal(all, []string{"b", "a", "b", "spare", "room"}) {
			t.Fatalf("what was handed in is %s", shown(all))
		}
	}
	if third, _ := Keys(l); !slices.Equal(third, []string{"a", "b"}) {
		t.Errorf("Keys(%s) is %s", shown(l), shown(third))
	}
	rising := []string{"a", "b"}
	if got, _ := Keys(rising); len(got) == 2 {
		got[0] = "other"
	}
	if rising[0] != "a" {
		t.Error("a list that is right already is told itself")
	}
}

// R1: every call ends, and soon, of great texts and lists.
func TestGreat(t *testing.T) {
	const n = 1 << 20
	for _, piece := range []string{"a", "A", "$seen", `\Seen`, `\`, " ", "\xff", "\u00e4"} {
		s := strings.Repeat(piece, n)
		hold(t, s)
		hold(t, `\`+s)
		hold(t, "$"+s)
		if got := List([]string{s, "a"}); got != "("+s+" a)" {
			t.Errorf("List of a great %s", shown(piece))
		}
		if got, err := Keys([]string{"a", s}); got != nil || err != api.ErrArg {
			t.Errorf("Keys of a great %s", shown(piece))
		}
	}
	for _, l := range [][]string{slices.Repeat([]string{"a"}, n), slices.Repeat(many(16), n/16), slices.Repeat([]string{"b", "a"}, n), many(n / 8)} {
		want, errWant := wantedKeys(l)
		if got, err := Keys(l); !slices.Equal(got, want) || err != errWant {
			t.Errorf("Keys of %d is %s, %d, want %s, %d", len(l), shown(got), err, shown(want), errWant)
		}
		if got, err := Keys(append(l, "A")); got != nil || err != api.ErrArg {
			t.Errorf("Keys of %d and of what is none is %s, %d", len(l), shown(got), err)
		}
		if got := List(l); got != "("+strings.Join(l, " ")+")" {
			t.Errorf("List of %d", len(l))
		}
	}
}

// The chapter's way: the five stand in a switch, and nowhere else.
func TestFiveInSwitch(t *testing.T) {
	file, err := parser.ParseFile(token.NewFileSet(), "flag.go", nil, 0)
	if err != nil {
		t.Fatal(err)
	}
	count := func(node ast.Node) int {
		told := 0
		ast.Inspect(node, func(node ast.Node) bool {
			if l, ok := node.(*ast.BasicLit); ok && l.Kind == token.STRING {
				s, _ := strconv.Unquote(l.Value)
				for key, own := range five {
					if s == key || small(s) == small(own) {
						told++
					}
				}
			}
			return true
		})
		return told
	}
	inSwitch, cases := 0, 0
	ast.Inspect(file, func(node ast.Node) bool {
		if s, ok := node.(*ast.SwitchStmt); ok {
			inSwitch += count(s)
			for _, c := range s.Body.List {
				for _, e := range c.(*ast.CaseClause).List {
					cases += count(e)
				}
			}
		}
		return true
	})
	if all := count(file); inSwitch != all || cases < 5 {
		t.Errorf("the five stand in switches at %d of %d places, at %d as what is asked for", inSwitch, all, cases)
	}
}
