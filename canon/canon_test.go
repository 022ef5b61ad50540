package canon

import (
	"bytes"
	stdjson "encoding/json"
	"fmt"
	"go/ast"
	"go/parser"
	"go/token"
	"math"
	"math/rand"
	"reflect"
	"regexp"
	"runtime"
	"slices"
	"strconv"
	"strings"
	"testing"
	"unicode/utf8"
	"unsafe"

	"pillarbox/api"
	"pillarbox/json"
)

// nodes is what each of some texts tells.
func nodes(texts ...string) []api.Node {
	var all []api.Node
	for _, s := range texts {
		n, e := json.Parse([]byte(s))
		if e != api.OK {
			panic(s + " is no text of JSON")
		}
		all = append(all, n)
	}
	return all
}

func node(s string) api.Node           { return nodes(s)[0] }
func str(s string) api.Node            { return api.Node{Kind: api.JStr, Text: s} }
func arr(kids ...api.Node) api.Node    { return api.Node{Kind: api.JArr, Kids: kids} }
func list(keys ...string) []string     { return keys }
func kids(kids ...api.Node) []api.Node { return kids }

func obj(keys []string, kids ...api.Node) api.Node {
	return api.Node{Kind: api.JObj, Keys: keys, Kids: kids}
}

// nested is n in so many arrays and objects, by turns as turn says.
func nested(n api.Node, times, turn int) api.Node {
	for i := range times {
		if turn>>(i%2)&1 == 0 {
			n = arr(n)
		} else {
			n = obj(list("a"), n)
		}
	}
	return n
}

// tidy is n in memory of its own, with nil for each empty list.
func tidy(n api.Node) api.Node {
	n.Keys = append([]string(nil), n.Keys...)
	n.Kids = append([]api.Node(nil), n.Kids...)
	for i := range n.Kids {
		n.Kids[i] = tidy(n.Kids[i])
	}
	return n
}

// alike is what Same must tell.
func alike(a, b api.Node) bool {
	return reflect.DeepEqual(tidy(a), tidy(b))
}

var escape = regexp.MustCompile(`\\(?:u2028|u2029|.)`)

// quoted is a text as the library writes it, but for two signs that it needn't escape.
func quoted(s string) string {
	var b bytes.Buffer
	e := stdjson.NewEncoder(&b)
	e.SetEscapeHTML(false)
	if err := e.Encode(s); err != nil {
		panic(err)
	}
	return escape.ReplaceAllStringFunc(strings.TrimSuffix(b.String(), "\n"), func(found string) string {
		switch found {
		case `\u2028`:
			return "\u2028"
		case `\u2029`:
			return "\u2029"
		}
		return found
	})
}

// written is the text of n, if n is right; else what comes out.
func written(n api.Node) string {
	switch n.Kind {
	case api.JNull, api.JFalse, api.JTrue:
		return list("null", "false", "true")[n.Kind-api.JNull]
	case api.JNum:
		return strconv.Itoa(n.Num)
	case api.JStr:
		return quoted(n.Text)
	case api.JArr:
		return "[" + joined(n.Kids, func(int) string { return "" }) + "]"
	case api.JObj:
		return "{" + joined(n.Kids, func(i int) string {
			if i < len(n.Keys) {
				return quoted(n.Keys[i]) + ":"
			}
			return ""
		}) + "}"
	}
	return ""
}

// joined is the texts of some kids, with what stands ahead of each.
func joined(kids []api.Node, ahead func(int) string) string {
	var all []string
	for i, k := range kids {
		all = append(all, ahead(i)+written(k))
	}
	return strings.Join(all, ",")
}

// wantRight is what Right must tell of n: it is right if there is a text that tells just it.
func wantRight(n api.Node) bool {
	got, e := json.Parse([]byte(written(n)))
	return e == api.OK && alike(got, n)
}

// shown is the beginning of n, for what a test says.
func shown(n api.Node) string {
	s := fmt.Sprintf("%.100v", n)
	return s[:min(len(s), 300)]
}

// hold holds Right and Print of n against what they must tell.
func hold(t *testing.T, n api.Node, right bool, want string, wantE api.Errno) {
	t.Helper()
	before := tidy(n)
	if got := Right(n); got != right {
		t.Fatalf("Right(%s) is %v", shown(n), got)
	}
	if got, e := Print(n); got != want || e != wantE {
		t.Fatalf("Print(%s) is %.200q, %d; want %.200q, %d", shown(n), got, e, want, wantE)
	}
	if !alike(n, before) {
		t.Fatalf("%s was changed", shown(before))
	}
}

// holdAll holds Right and Print of n, which is not too long, against the library.
func holdAll(t *testing.T, n api.Node) {
	t.Helper()
	if wantRight(n) {
		hold(t, n, true, written(n), api.OK)
	} else {
		hold(t, n, false, "", api.ErrArg)
	}
}

// 8.1: texts that are printed as they were read.
var canonical = []string{
	"{}", // the chapter's example
	"null", "false", "true", "0", "1", "-1", "10", "-907", "1234567890", "9007199254740990", "9007199254740991", "-9007199254740991",
	`""`, `"a"`, `" a "`, `"null"`, `"0"`, `"[]"`, `"/"`, `"'"`, `"<&>"`, `"\""`, `"\\"`, `"\\\""`, `"\"\\"`, `"a\"b\\c"`, `"\\u0041"`, `"\\n"`,
	`"\b\t\n\f\r"`, `"\u0000"`, `"\u0001\u0007\u000b\u000e\u000f\u0010\u0019\u001a\u001f"`, `"\r\na"`, "\"\x7f\"", "\"\u0080\u00a0\u2028\u2029\ufeff\ufffd\uffff\"", `"ä日😀"`, "\"\U0010ffff\"",
	"[]", "[[]]", "[{}]", "[null]", "[false,true]", "[3,1,2]", "[1,1]", "[[],[[]],[1,[2,[3]]]]", `["","a","\n"]`,
	`{"a":1}`, `{"":0}`, `{"b":1,"a":2,"c":3}`, `{"a":{"a":{"a":[]}}}`, `{"a":{},"b":[]}`, `{"\"":1,"\\":2,"\n":3,"\u0000":4,"ä😀":5,"/":6}`, `{"a":1,"A":1,"a ":1}`, `{"a":"a","b":"a"}`, `[{"a":1},{"a":1}]`,
}

func TestPrint(t *testing.T) {
	for _, s := range canonical {
		hold(t, node(s), true, s, api.OK)
		hold(t, arr(node(s), node(s)), true, "["+s+","+s+"]", api.OK)
		hold(t, obj(list("b", "a"), node(s), node(s)), true, `{"b":`+s+`,"a":`+s+`}`, api.OK)
		holdAll(t, node(s))
	}
	for s, want := range map[string]string{
		" [ 1 , { \"a\" : [ ] } ]\n":       `[1,{"a":[]}]`, // without blanks
		`"\/\u0041\u0022\u005c\u00e4"`:     `"/A\"\\ä"`,
		`"\u0008\u0009\u000a\u000C\u000D"`: `"\b\t\n\f\r"`,
		`"\u001F\u001B"`:                   `"\u001f\u001b"`, // a to f small
		`"\u007f\u0020\ud83d\ude00\u2028"`: "\"\x7f 😀\u2028\"",
		`{"\u0061\u0000":"\u0061\u000b"}`:  `{"a\u0000":"a\u000b"}`,
	} {
		hold(t, node(s), true, want, api.OK)
	}
}

// 8.1: what is not right, each by one thing alone; and what is, next to it.
func TestRight(t *testing.T) {
	null := node("null")
	for _, c := range []struct {
		n    api.Node
		want bool
	}{
		{api.Node{}, false},
		{api.Node{Kind: -1}, false},
		{api.Node{Kind: api.JObj + 1}, false},
		{api.Node{Kind: math.MinInt}, false},
		{api.Node{Kind: math.MaxInt}, false},
		{api.Node{Kind: api.JNull}, true},
		{api.Node{Kind: api.JNull, Keys: list(), Kids: kids()}, true}, // nil and empty are one
		{api.Node{Kind: api.JStr, Keys: list(), Kids: kids()}, true},
		{api.Node{Kind: api.JArr, Keys: list(), Kids: kids()}, true},
		{api.Node{Kind: api.JObj, Keys: list(), Kids: nil}, true},
		{api.Node{Kind: api.JObj, Keys: nil, Kids: kids()}, true},
		{api.Node{Kind: api.JNull, Num: 1}, false},
		{api.Node{Kind: api.JFalse, Num: -1}, false},
		{api.Node{Kind: api.JTrue, Num: 1}, false},
		{api.Node{Kind: api.JStr, Num: 1}, false},
		{api.Node{Kind: api.JArr, Num: 1}, false},
		{api.Node{Kind: api.JObj, Num: 1}, false},
		{api.Node{Kind: api.JNum, Num: api.MaxNum}, true},
		{api.Node{Kind: api.JNum, Num: api.MaxNum + 1}, false},
		{api.Node{Kind: api.JNum, Num: -api.MaxNum}, true},
		{api.Node{Kind: api.JNum, Num: -api.MaxNum - 1}, false},
		{api.Node{Kind: api.JNum, Num: math.MaxInt}, false},
		{api.Node{Kind: api.JNum, Num: math.MinInt}, false},
		{api.Node{Kind: api.JNum, Text: "1"}, false},
		{api.Node{Kind: api.JNull, Text: "a"}, false},
		{api.Node{Kind: api.JFalse, Text: "a"}, false},
		{api.Node{Kind: api.JTrue, Text: "a"}, false},
		{api.Node{Kind: api.JArr, Text: "a"}, false},
		{api.Node{Kind: api.JObj, Text: "a"}, false},
		{str("\xff"), false},
		{str("a\xc3"), false},
		{str("\xed\xa0\x80"), false},
		{str("\xc0\x80"), false},
		{str("\xf4\x90\x80\x80"), false},
		{str("\x00"), true},
		{str("\ufffd"), true},
		{api.Node{Kind: api.JNum, Kids: kids(null)}, false},
		{api.Node{Kind: api.JStr, Kids: kids(null)}, false},
		{api.Node{Kind: api.JTrue, Kids: kids(null)}, false},
		{api.Node{Kind: api.JNum, Keys: list("a")}, false},
		{api.Node{Kind: api.JStr, Keys: list("a")}, false},
		{api.Node{Kind: api.JTrue, Keys: list("a")}, false},
		{api.Node{Kind: api.JTrue, Keys: list("a"), Kids: kids(null)}, false},
		{api.Node{Kind: api.JArr, Keys: list("a")}, false},
		{api.Node{Kind: api.JArr, Keys: list("a"), Kids: kids(null)}, false},
		{obj(list("a")), false},
		{obj(list(), null), false},
		{obj(list("a"), null, null), false},
		{obj(list("a", "b"), null), false},
		{obj(list("a", "b"), null, null), true},
		{obj(list("a", "a"), null, null), false},
		{obj(list("", ""), null, null), false},
		{obj(list("a", "b", "a"), null, null, null), false},
		{obj(list("a", "b", "b"), null, null, null), false},
		{obj(list("a", "A", "ä", "a\u0308", "\u00e4\x00"), null, null, null, null, null), true},
		{obj(list("\xff"), null), false},
		{obj(list("a", "b\xc3"), null, null), false},
		{obj(list("\xff", "\xfe"), null, null), false},
		{arr(api.Node{}), false},
		{arr(null, null, api.Node{}), false},
		{arr(api.Node{}, null), false},
		{obj(list("a"), api.Node{}), false},
		{obj(list("a", "b"), null, str("\xff")), false},
		{arr(arr(arr(obj(list("a"), arr(str("\xff")))))), false},
	} {
		if wantRight(c.n) != c.want {
			t.Fatalf("the oracle is wrong of %v", c.n)
		}
		for turn := range 4 {
			for _, times := range []int{0, 1, 2, 5} {
				holdAll(t, nested(c.n, times, turn))
			}
			holdAll(t, arr(null, nested(c.n, 1, turn), null))
			holdAll(t, obj(list("a", "b"), nested(c.n, 1, turn), null))
		}
	}
}

// 8.1: all that may be set together, of each kind, by itself and as a kid.
func TestRightEach(t *testing.T) {
	null, one := node("null"), node("[1]")
	for _, kind := range []int{math.MinInt, -1, 0, api.JNull, api.JFalse, api.JTrue, api.JNum, api.JStr, api.JArr, api.JObj, api.JObj + 1, 1 << 32, math.MaxInt} {
		for _, num := range []int{0, 1, -1, api.MaxNum, -api.MaxNum, api.MaxNum + 1, -api.MaxNum - 1, math.MinInt, math.MaxInt} {
			for _, text := range list("", "a", "ä\n", "\xff", "a\x80") {
				for _, keys := range [][]string{nil, {}, {""}, {"a"}, {"a", "b"}, {"a", "a"}, {"\xff"}, {"a", "\xff"}} {
					for _, inner := range [][]api.Node{nil, {}, {null}, {null, one}, {null, {}}, {one, null, one}} {
						n := api.Node{Kind: kind, Num: num, Text: text, Keys: keys, Kids: inner}
						holdAll(t, n)
						if got, want := Right(arr(null, n)), wantRight(n); got != want {
							t.Fatalf("Right of an array with %v is %v", n, got)
						}
					}
				}
			}
		}
	}
}

// 8.1: arrays and objects in one another, as many as may be and more.
func TestRightNest(t *testing.T) {
	for turn := range 4 {
		for _, leaf := range nodes("1", `"a"`, "[]", "{}", "[[]]", `{"a":{}}`, `[1,{"a":[]}]`) {
			for times := api.MaxNest - 4; times < api.MaxNest+4; times++ {
				n := nested(leaf, times, turn)
				holdAll(t, n)
				holdAll(t, arr(node("1"), n))
				holdAll(t, obj(list("a", "b"), node("[[]]"), n))
			}
		}
		deep := nested(node("1"), api.MaxNest-1, turn)
		hold(t, arr(deep, deep, deep), true, written(arr(deep, deep, deep)), api.OK) // one behind the other is not in one another
		hold(t, arr(deep, deep, arr(deep)), false, "", api.ErrArg)
		hold(t, nested(arr(), api.MaxNest, turn), false, "", api.ErrArg)
		hold(t, nested(api.Node{Kind: api.JNum, Kids: kids(arr())}, api.MaxNest, turn), false, "", api.ErrArg)
		// As deep as anything that is handed in.
		if Right(nested(node("1"), 1<<16-1, turn)) {
			t.Error("what is much too deep is right")
		}
	}
}

// 8.1: each byte below 32, each code point, each pair of bytes.
func TestPrintTexts(t *testing.T) {
	const short = "btn\x00fr" // from 8 on; 11 has no letter
	for c := range 32 {
		want := `"\u00` + string("01"[c>>4]) + string("0123456789abcdef"[c&15]) + `"`
		if c >= 8 && c <= 13 && c != 11 {
			want = `"\` + string(short[c-8]) + `"`
		}
		s := string(rune(c))
		hold(t, str(s), true, want, api.OK)
		hold(t, obj(list(s), node("0")), true, "{"+want+":0}", api.OK)
	}
	for r := rune(' '); r <= utf8.MaxRune; r++ {
		if r == '"' || r == '\\' || !utf8.ValidRune(r) {
			continue
		}
		if got, e := Print(str(string(r))); got != `"`+string(r)+`"` || e != api.OK {
			t.Fatalf("Print of %x is %q, %d", r, got, e)
		}
	}
	for i := range 1 << 16 {
		s := string([]byte{byte(i >> 8), byte(i)})
		holdAll(t, str(s))
		holdAll(t, obj(list(s), node("0")))
	}
}

// 8.1: texts of just as many bytes as may be, and of one more, by what stands last in them.
func TestPrintLong(t *testing.T) {
	shapes := []func(pad string) api.Node{str}
	for _, s := range list(`"`, `\`, "\n", "\x01", "\x1f", "ä", "😀", `""`, "\x00\x00") {
		shapes = append(shapes,
			func(pad string) api.Node { return str(pad + s) },
			func(pad string) api.Node { return str(s + pad) },
			func(pad string) api.Node { return obj(list(pad+s), node("0")) },
			func(pad string) api.Node { return obj(list("a", s), str(pad), node("0")) })
	}
	for _, k := range nodes("null", "false", "true", "0", "-9007199254740991", `""`, "[]", "{}", "[[[]]]", `{"a":{"b":[1,2]}}`, "[1,2,3]", `["a","b"]`) {
		shapes = append(shapes,
			func(pad string) api.Node { return arr(str(pad), k) },
			func(pad string) api.Node { return arr(k, str(pad)) },
			func(pad string) api.Node { return arr(str(pad), k, k) },
			func(pad string) api.Node { return obj(list("a", pad), k, k) },
			func(pad string) api.Node { return obj(list("b", "a"), str(pad), k) },
			func(pad string) api.Node { return nested(arr(str(pad), k), 18, 2) })
	}
	for _, shape := range shapes {
		least := len(written(shape("")))
		for bytes := api.MaxJson - 8; bytes <= api.MaxJson+8; bytes++ {
			n := shape(strings.Repeat("x", bytes-least))
			if bytes <= api.MaxJson {
				hold(t, n, true, written(n), api.OK)
			} else {
				hold(t, n, true, "", api.ErrLong)
			}
		}
	}
}

// 8.1: what is far too long; ErrArg ahead of ErrLong.
func TestPrintMuchTooLong(t *testing.T) {
	null := node("null")
	many := slices.Repeat(kids(null), 1<<17)
	hold(t, arr(many...), true, "", api.ErrLong)
	hold(t, arr(append(slices.Clone(many), api.Node{})...), false, "", api.ErrArg)
	hold(t, arr(api.Node{}, arr(many...)), false, "", api.ErrArg)
	long := strings.Repeat("x", 1<<20)
	hold(t, str(long), true, "", api.ErrLong)
	hold(t, str(long+"\xff"), false, "", api.ErrArg)
	hold(t, arr(str(long), nested(null, api.MaxNest, 0)), false, "", api.ErrArg)
	hold(t, obj(list(long, long), null, null), false, "", api.ErrArg)
	hold(t, obj(list(long, "a"), null), false, "", api.ErrArg)
	hold(t, obj(list("a", long), null, null), true, "", api.ErrLong)
	var keys []string
	for i := range many {
		keys = append(keys, strconv.Itoa(i))
	}
	hold(t, obj(keys, many...), true, "", api.ErrLong)
	keys[len(keys)-1] = "0"
	hold(t, obj(keys, many...), false, "", api.ErrArg)
}

// Print writes not much more than may be, however long the text would be.
func TestPrintGivesUp(t *testing.T) {
	noughts := strings.Repeat("\x00", 1<<24)
	some := str(noughts[:1<<8])
	// The same kids again and again, each counted wherever it stands.
	lists, pairs := some, some
	for range 20 {
		lists, pairs = arr(lists, lists), obj(list("a", "b"), pairs, pairs)
	}
	for i, n := range kids(str(noughts), obj(list(noughts), some), arr(slices.Repeat(kids(some), 1<<16)...), arr(str(noughts), str(noughts)), lists, pairs) {
		var before, after runtime.MemStats
		runtime.ReadMemStats(&before)
		_, e := Print(n)
		runtime.ReadMemStats(&after)
		if used := after.TotalAlloc - before.TotalAlloc; e != api.ErrLong || used > 16*api.MaxJson {
			t.Errorf("%d: %d, %d bytes used", i, e, used)
		}
	}
}

// small is all values of a few kinds, of up to two in one another, no two alike.
func small() []api.Node {
	leaves := nodes("null", "false", "true", "0", "1", "-1", `""`, `"a"`, `"\""`, `"a,b"`, "[]", "{}")
	more := slices.Clone(leaves)
	for _, a := range leaves {
		more = append(more, arr(a), obj(list("a"), a), obj(list(""), a), obj(list(`"`), a))
		for _, b := range leaves {
			more = append(more, arr(a, b), obj(list("a", "b"), a, b), obj(list("b", "a"), a, b), obj(list("", "a"), a, b))
		}
	}
	return more
}

// 8.2: alike or not, of each two that are right.
func TestSame(t *testing.T) {
	all := small()
	for i, a := range all {
		copied := tidy(a)
		for k, b := range all {
			if Same(copied, b) != (i == k) || Same(b, copied) != (i == k) {
				t.Fatalf("Same(%v, %v) is %v", a, b, i != k)
			}
		}
	}
}

// 8.2: alike or not, of each two of which one thing or more is not as it may be.
func TestSameEach(t *testing.T) {
	null, wrong := node("null"), api.Node{Text: "\xff", Keys: list("a")}
	var all, copies []api.Node
	for _, kind := range []int{0, api.JNull, api.JArr, api.JObj, -7} {
		for _, num := range []int{0, 1} {
			for _, text := range list("", "\xff") {
				for _, keys := range [][]string{nil, {}, {"a"}, {"b"}, {"a", "b"}, {"b", "a"}, {"a", "a"}, {""}} {
					for _, inner := range [][]api.Node{nil, {}, {null}, {wrong}, {null, wrong}, {wrong, null}, {arr()}, {{Kind: api.JArr, Keys: list(), Kids: kids()}}} {
						n := api.Node{Kind: kind, Num: num, Text: text, Keys: keys, Kids: inner}
						all, copies = append(all, n), append(copies, tidy(n))
					}
				}
			}
		}
	}
	for i := range all {
		for k := range all {
			if got := Same(all[i], all[k]); got != reflect.DeepEqual(copies[i], copies[k]) {
				t.Fatalf("Same(%v, %v) is %v", all[i], all[k], got)
			}
		}
		if !reflect.DeepEqual(tidy(all[i]), copies[i]) {
			t.Fatalf("%v was changed", copies[i])
		}
	}
}

// 8.2: two that are alike but for one thing, wherever it stands; nil and empty lists all the way down.
func TestSameDeep(t *testing.T) {
	for turn := range 4 {
		for _, times := range []int{1, 2, api.MaxNest, api.MaxNest + 1, 1<<16 - 1} {
			for _, c := range []struct {
				a, b api.Node
				want bool
			}{
				{node("1"), node("1"), true},
				{node("1"), node("2"), false},
				{node("[]"), node("{}"), false},
				{str("a"), str("A"), false},
				{str("ä"), str("a\u0308"), false},
				{arr(), api.Node{Kind: api.JArr, Keys: list(), Kids: kids()}, true},
				{obj(nil), obj(list(), kids()...), true},
				{node("[1]"), node("[1,1]"), false},
				{node("[]"), node("[null]"), false},
				{node(`{"a":1,"b":2}`), node(`{"a":1,"b":2}`), true},
				{node(`{"a":1,"b":2}`), node(`{"b":2,"a":1}`), false},
				{node(`{"a":1,"b":2}`), node(`{"b":1,"a":2}`), false},
				{obj(list("a", ""), node("1"), api.Node{}), obj(list("a"), node("1"), api.Node{}), false},
			} {
				a, b := nested(c.a, times, turn), nested(c.b, times, turn)
				if Same(a, b) != c.want || Same(b, a) != c.want || !Same(a, a) {
					t.Errorf("Same(%v, %v) in %d others is not %v", c.a, c.b, times, c.want)
				}
			}
		}
	}
}

// 8.2: Find.
func TestFind(t *testing.T) {
	one, two, wrong := node("1"), node(`["a",{"b":[]}]`), api.Node{Num: 7, Text: "\xff", Keys: list("a"), Kids: kids(node("2"))}
	for _, c := range []struct {
		n    api.Node
		key  string
		want api.Node
		ok   bool
	}{
		{node(`{"a":1}`), "a", one, true},
		{node(`{"b":2,"a":1}`), "a", one, true},
		{node(`{"a":1,"b":2}`), "a", one, true},
		{node(`{"a":1}`), "b", api.Node{}, false},
		{node(`{"a":1}`), "", api.Node{}, false},
		{node(`{"a":1}`), "A", api.Node{}, false},
		{node(`{"a":1}`), "aa", api.Node{}, false},
		{node(`{"a":1}`), "a\x00", api.Node{}, false},
		{node(`{"ab":1}`), "a", api.Node{}, false},
		{node(`{"":1}`), "", one, true},
		{node(`{"ä":1}`), "ä", one, true},
		{node(`{"ä":1}`), "a\u0308", api.Node{}, false},
		{node(`{"\u0000":1}`), "\x00", one, true},
		{node(`{"a":{"b":1}}`), "b", api.Node{}, false}, // not in a kid
		{node(`{"b":{"a":2},"a":1}`), "a", one, true},
		{node(`{"a":null}`), "a", node("null"), true},
		{obj(list("x", "a"), one, two), "a", two, true},
		{node("{}"), "a", api.Node{}, false},
		{node("{}"), "", api.Node{}, false},
		{node("[]"), "", api.Node{}, false},
		{node(`[{"a":1}]`), "a", api.Node{}, false},
		{node(`"a"`), "a", api.Node{}, false},
		{node("null"), "", api.Node{}, false},
		{api.Node{}, "", api.Node{}, false},
		// What is not right.
		{obj(list("a", "a"), one, two), "a", one, true}, // the first
		{obj(list("b", "a", "a"), one, two, one), "a", two, true},
		{obj(list("a"), wrong), "a", wrong, true},
		{obj(list("a"), api.Node{}), "a", api.Node{}, true},
		{obj(list("\xff"), one), "\xff", one, true},
		{obj(list("\xff"), one), "\xfe", api.Node{}, false},
		{obj(list("a", "b"), one), "a", one, true}, // a key without a kid
		{obj(list("a", "b"), one), "b", api.Node{}, false},
		{obj(list("a")), "a", api.Node{}, false},
		{obj(list("b", "a", "a"), one), "a", api.Node{}, false},
		{obj(nil, one), "", api.Node{}, false}, // a kid without a key
		{obj(list("a"), one, two), "a", one, true},
		{api.Node{Kind: api.JObj, Num: 3, Text: "x", Keys: list("a"), Kids: kids(one)}, "a", one, true},
		{api.Node{Kind: api.JArr, Keys: list("a"), Kids: kids(one)}, "a", api.Node{}, false},
		{api.Node{Kind: api.JStr, Text: "a", Keys: list("a"), Kids: kids(one)}, "a", api.Node{}, false},
		{api.Node{Keys: list("a"), Kids: kids(one)}, "a", api.Node{}, false},
		{api.Node{Kind: api.JObj + 1, Keys: list("a"), Kids: kids(one)}, "a", api.Node{}, false},
	} {
		before := tidy(c.n)
		if got, ok := Find(c.n, c.key); ok != c.ok || !alike(got, c.want) {
			t.Errorf("Find(%v, %q) is %v, %v; want %v, %v", c.n, c.key, got, ok, c.want, c.ok)
		}
		if !alike(c.n, before) {
			t.Errorf("%v was changed", before)
		}
	}
	// What stands in the spare room of a list isn't there.
	n := obj(list("a", "b", "c")[:2], kids(one, two, one)[:1]...)
	for key, want := range map[string]bool{"a": true, "b": false, "c": false} {
		if got, ok := Find(n, key); ok != want {
			t.Errorf("Find(%v, %q) is %v, %v", n, key, got, ok)
		}
	}
	deep := nested(one, 1<<16-2, 1)
	if got, ok := Find(obj(list("a"), deep), "a"); !ok || !Same(got, deep) {
		t.Error("what is very deep is not found")
	}
}

// places is where the items of all lists of n stand, their spare room too; a place that two lists share is told to shared.
func places(n api.Node, seen map[any]bool, shared func()) {
	note := func(place any) {
		if seen[place] {
			shared()
		}
		seen[place] = true
	}
	keys, inner := n.Keys[:cap(n.Keys)], n.Kids[:cap(n.Kids)]
	for i := range keys {
		note(&keys[i])
	}
	for i := range inner {
		note(&inner[i])
	}
	for _, k := range n.Kids {
		places(k, seen, shared)
	}
}

// texts is where the bytes of all texts of n stand.
func texts(n api.Node) []*byte {
	all := []*byte{unsafe.StringData(n.Text)}
	for _, key := range n.Keys {
		all = append(all, unsafe.StringData(key))
	}
	for _, k := range n.Kids {
		all = append(all, texts(k)...)
	}
	return all
}

// R3: what Find tells shares nothing with what was handed in, nor with what it told ahead.
func TestFindNewMemory(t *testing.T) {
	// The lists have spare room, in which something stands.
	roomy := func(n api.Node) api.Node {
		n.Keys = append(slices.Clone(n.Keys), "x", "y")[:len(n.Keys)]
		n.Kids = append(slices.Clone(n.Kids), node("8"), node("9"))[:len(n.Kids)]
		return n
	}
	inner := roomy(node(`{"b":1,"c":[2]}`))
	n := roomy(obj(list("z", "a"), node("0"), roomy(arr(inner, roomy(arr()), roomy(node(`[[],{},"a"]`))))))
	before := tidy(n)
	seen := map[any]bool{}
	places(n, seen, func() { t.Fatal("the test's own lists share memory") })
	var told []api.Node
	for range 3 {
		got, ok := Find(n, "a")
		if !ok || !alike(got, before.Kids[1]) {
			t.Fatalf("%v, %v", got, ok)
		}
		places(got, seen, func() { t.Error("lists share memory") })
		told = append(told, got)
	}
	spoil := func(n api.Node) {
		n.Kids[0].Keys[0], n.Kids[0].Kids[1].Kids[0] = "turned", node("true")
		_ = append(n.Kids[0].Keys, "more")
		_ = append(n.Kids, node("true"))
	}
	spoil(told[0])
	if !alike(told[1], before.Kids[1]) || !alike(n, before) {
		t.Error("who writes into one turns another")
	}
	spoil(n.Kids[1])
	if !alike(told[1], before.Kids[1]) {
		t.Error("what was told is what was handed in")
	}
	held := obj(list("a"), node(`["bc",{"de":"fg"}]`))
	got, _ := Find(held, "a")
	for _, place := range texts(got) {
		if place != nil && slices.Contains(texts(held), place) {
			t.Error("texts share memory")
		}
	}
	if got := n.Kids[1].Kids[0].Keys[:4][3]; got != "y" {
		t.Errorf("spare room was written into: %q", got)
	}
}

// grown makes values out of others, any that came ahead of them, right and wrong ones.
func grown(r *rand.Rand, times int) []api.Node {
	pool := small()
	points := []rune("ab\"\\/\b\f\n\r\t\x00\x1f\x7fä日😀\u2028\uffff\U00010000\U0010ffff,:[]{}")
	for range times {
		n := arr()
		if r.Intn(2) == 0 {
			n.Kind = api.JObj
		}
		for range 1 + r.Intn(3) {
			n.Kids = append(n.Kids, pool[len(pool)-1-r.Intn(min(len(pool), 800))])
			if n.Kind == api.JObj {
				n.Keys = append(n.Keys, string(points[r.Intn(len(points))])+string(points[r.Intn(len(points))]))
			}
		}
		if r.Intn(8) == 0 {
			n = str(string(points[r.Intn(len(points))]) + string(points[r.Intn(len(points))]))
		}
		if len(written(n)) < 800 {
			pool = append(pool, n)
		}
	}
	return pool
}

// 8.1: Right and Print of any values.
func TestPrintAny(t *testing.T) {
	for _, n := range grown(rand.New(rand.NewSource(81)), 10000) {
		holdAll(t, n)
	}
}

// spoilt is n with one thing turned somewhere in it.
func spoilt(r *rand.Rand, n api.Node) api.Node {
	n = tidy(n)
	if len(n.Kids) > 0 && r.Intn(4) > 0 {
		at := r.Intn(len(n.Kids))
		n.Kids[at] = spoilt(r, n.Kids[at])
		return n
	}
	switch r.Intn(6) {
	case 0:
		n.Kind = r.Intn(10) - 1
	case 1:
		n.Num = []int{0, 1, api.MaxNum, -api.MaxNum - 1, api.MaxNum + 1}[r.Intn(5)]
	case 2:
		n.Text = list("", "a", "\xff", "\xc3")[r.Intn(4)]
	case 3:
		n.Keys = append(n.Keys, list("", "a", "c", "\xff")[r.Intn(4)])
	case 4:
		n.Kids = append(n.Kids, node("null"))
	case 5:
		n.Keys, n.Kids = append(n.Keys, list("a", "b", "c", "\xff")[r.Intn(4)]), append(n.Kids, node("[]"))
	}
	return n
}

// 8.1, 8.2: any values with one thing turned in them.
func TestSpoilt(t *testing.T) {
	r := rand.New(rand.NewSource(82))
	for _, n := range grown(r, 5000) {
		for range 3 {
			other := spoilt(r, n)
			holdAll(t, other)
			if want := alike(n, other); Same(n, other) != want || Same(other, n) != want {
				t.Fatalf("Same(%v, %v) is not %v", n, other, want)
			}
		}
	}
}

// 8.3: Print of two unlike ones differs; it is read back (7.3), so nothing of them is lost.
func TestPrintDiffers(t *testing.T) {
	all := grown(rand.New(rand.NewSource(83)), 10000)
	some := small()
	for _, a := range some {
		for _, b := range some[:40] {
			all = append(all, arr(a, b), obj(list("a"), a), obj(list("a,", "b"), b, a), str(written(a)+written(b)))
		}
	}
	printed := map[string]api.Node{}
	for _, n := range all {
		s, e := Print(n)
		if e != api.OK {
			if Right(n) {
				t.Fatalf("Print(%v) is %d", n, e)
			}
			continue
		}
		if other, ok := printed[s]; ok && !alike(n, other) {
			t.Fatalf("%v and %v are both %s", n, other, s)
		}
		printed[s] = n
		if back, e := json.Parse([]byte(s)); e != api.OK || !Same(back, n) {
			t.Fatalf("%s is read back as %v, %d", s, back, e)
		}
	}
}

// isKind tells whether node is the Kind of something.
func isKind(node ast.Expr) bool {
	s, ok := node.(*ast.SelectorExpr)
	return ok && s.Sel.Name == "Kind"
}

// kindsNamed is how often kinds of JSON are named in node, and in how many switches on a Kind.
func kindsNamed(node ast.Node) (named, inSwitch, switches int) {
	kind := regexp.MustCompile(`^J[A-Z]`)
	ast.Inspect(node, func(node ast.Node) bool {
		switch node := node.(type) {
		case *ast.SelectorExpr:
			if kind.MatchString(node.Sel.Name) {
				named++
			}
		case *ast.SwitchStmt:
			if !isKind(node.Tag) {
				return true
			}
			switches++
			for _, c := range node.Body.List {
				for _, e := range c.(*ast.CaseClause).List {
					more, _, _ := kindsNamed(e)
					inSwitch += more
				}
			}
		}
		return true
	})
	return named, inSwitch, switches
}

// The chapter's way: nodes are gone through by their Kind, by a switch; Find alone asks for one kind.
func TestWalkBySwitch(t *testing.T) {
	file, err := parser.ParseFile(token.NewFileSet(), "canon.go", nil, 0)
	if err != nil {
		t.Fatal(err)
	}
	all := 0
	for _, d := range file.Decls {
		f, ok := d.(*ast.FuncDecl)
		if !ok || f.Name.Name == "Find" {
			continue
		}
		named, inSwitch, switches := kindsNamed(f)
		all += switches
		if named != inSwitch {
			t.Errorf("%s names a kind outside of a switch on Kind", f.Name.Name)
		}
		if switches > 0 && named != api.JObj {
			t.Errorf("%s names %d kinds", f.Name.Name, named)
		}
	}
	if all < 2 {
		t.Errorf("%d switches on Kind", all)
	}
}
