package json

import (
	"bytes"
	"encoding/json"
	"go/ast"
	"go/parser"
	"go/token"
	"math/big"
	"math/rand"
	"reflect"
	"regexp"
	"strconv"
	"strings"
	"testing"
	"unicode/utf16"
	"unicode/utf8"

	"pillarbox/api"
)

func num(n int) api.Node     { return api.Node{Kind: api.JNum, Num: n} }
func str(s string) api.Node  { return api.Node{Kind: api.JStr, Text: s} }
func kind(kind int) api.Node { return api.Node{Kind: kind} }

func arr(kids ...api.Node) api.Node { return api.Node{Kind: api.JArr, Kids: kids} }

// obj is an object of keys, one a kid, with blanks between.
func obj(keys string, kids ...api.Node) api.Node {
	return api.Node{Kind: api.JObj, Keys: strings.Fields(keys), Kids: kids}
}

// same tells whether a and b are alike, nil and empty lists too.
func same(a, b api.Node) bool {
	if a.Kind != b.Kind || a.Num != b.Num || a.Text != b.Text || len(a.Keys) != len(b.Keys) || len(a.Kids) != len(b.Kids) {
		return false
	}
	for i := range a.Keys {
		if a.Keys[i] != b.Keys[i] {
			return false
		}
	}
	for i := range a.Kids {
		if !same(a.Kids[i], b.Kids[i]) {
			return false
		}
	}
	return true
}

// hold holds what Parse tells of s against what it must tell.
func hold(t *testing.T, s string, want api.Node, wantE api.Errno) {
	t.Helper()
	b := []byte(s)
	n, e := Parse(b)
	if e != wantE || !same(n, want) {
		t.Fatalf("Parse(%.200q) is %v, %d; want %v, %d", s, n, e, want, wantE)
	}
	if string(b) != s {
		t.Fatalf("Parse(%.200q) changed it", s)
	}
}

// 7.1 and 7.2: texts that tell a value.
func TestParseValues(t *testing.T) {
	for _, c := range []struct {
		s    string
		want api.Node
	}{
		{`[1, "a"]`, arr(num(1), str("a"))}, // the chapter's example
		{"null", kind(api.JNull)},
		{"false", kind(api.JFalse)},
		{"true", kind(api.JTrue)},
		{"0", num(0)},
		{"1", num(1)},
		{"-1", num(-1)},
		{"10", num(10)},
		{"-10", num(-10)},
		{"1234567890", num(1234567890)},
		{"9007199254740990", num(api.MaxNum - 1)},
		{"9007199254740991", num(api.MaxNum)},
		{"-9007199254740991", num(-api.MaxNum)},
		{`""`, str("")},
		{`"a"`, str("a")},
		{`" a "`, str(" a ")}, // blanks in a text are its own
		{`"null"`, str("null")},
		{`"[1,{}]"`, str("[1,{}]")},
		{`"1"`, str("1")},
		{`"'"`, str("'")},
		{`"/"`, str("/")}, // a `\` may be ahead, or not
		{`"\/"`, str("/")},
		{`"\"\\\/\b\f\n\r\t"`, str("\"\\/\b\f\n\r\t")},
		{`"\\n"`, str(`\n`)}, // what came out is not read again
		{`"\\u0041"`, str(`\u0041`)},
		{`"\u005cn"`, str(`\n`)},
		{`"\u005c\u0022"`, str(`\"`)},
		{`"\u0022"`, str(`"`)},
		{`"a\"b"`, str(`a"b`)},
		{`"\u0041"`, str("A")},
		{`"\u00e4\u00E4\u00Ee"`, str("ääî")},
		{`"\u00411"`, str("A1")}, // four digits, not more
		{`"\u0000"`, str("\x00")},
		{`"\u001f"`, str("\x1f")},
		{`"\ud7ff\ue000\uffff\ufffd"`, str("\ud7ff\ue000\uffff\ufffd")},
		{`"\ud83d\ude00"`, str("😀")},
		{`"\uD83D\uDE00"`, str("😀")},
		{`"\ud800\udc00"`, str("\U00010000")},
		{`"\udbff\udfff"`, str("\U0010ffff")},
		{`"\ud83d\ude00\ud83d\ude00"`, str("😀😀")},
		{`"a\ud83d\ude00b"`, str("a😀b")},
		{"\"\x7f\"", str("\x7f")},
		{"\" \"", str(" ")},
		{`"ä日😀"`, str("ä日😀")},
		{"\"\u0080\u07ff\u0800\ud7ff\ue000\uffff\U00010000\U0010ffff\"", str("\u0080\u07ff\u0800\ud7ff\ue000\uffff\U00010000\U0010ffff")},
		{"\"\ufeff\u2028\u2029\u00a0\"", str("\ufeff\u2028\u2029\u00a0")},
		{"[]", arr()},
		{"[[]]", arr(arr())},
		{"[[],[]]", arr(arr(), arr())},
		{"[null,true,false]", arr(kind(api.JNull), kind(api.JTrue), kind(api.JFalse))},
		{"[3,1,2]", arr(num(3), num(1), num(2))}, // in order
		{"[1,1]", arr(num(1), num(1))},           // kids may be alike
		{`["a","a"]`, arr(str("a"), str("a"))},
		{"{}", obj("")},
		{"[{}]", arr(obj(""))},
		{`{"a":1}`, obj("a", num(1))},
		{`{"b":1,"a":2,"c":3}`, obj("b a c", num(1), num(2), num(3))}, // in order
		{`{"a":1,"A":1,"\u00e4":1}`, obj("a A ä", num(1), num(1), num(1))},
		{`{"a":1,"aa":2,"aaa":3}`, obj("a aa aaa", num(1), num(2), num(3))},
		{`{"a":{"a":{"a":1}}}`, obj("a", obj("a", obj("a", num(1))))}, // in another object a key is another one
		{`{"a":{"b":1},"b":{"b":2,"a":3}}`, obj("a b", obj("b", num(1)), obj("b a", num(2), num(3)))},
		{`[{"a":1},{"a":2}]`, arr(obj("a", num(1)), obj("a", num(2)))},
		{`{"a":"a","b":"a"}`, obj("a b", str("a"), str("a"))},
		{`{"a":[],"b":{}}`, obj("a b", arr(), obj(""))},
		{`{"\ud83d\ude00":1,"\"":2}`, obj(`😀 "`, num(1), num(2))},
		{`{"":1}`, api.Node{Kind: api.JObj, Keys: []string{""}, Kids: []api.Node{num(1)}}},
		{" \t\n\r1 \t\n\r", num(1)}, // blanks
		{"\n\nnull\r\n", kind(api.JNull)},
		{" [ ] ", arr()},
		{"[\t]", arr()},
		{" { } ", obj("")},
		{"{\r\n}", obj("")},
		{" [ 1 , 2 ] ", arr(num(1), num(2))},
		{"\t{\n\"a\"\r:\t1\n,\r\"b\" : [ ] }", obj("a b", num(1), arr())},
	} {
		hold(t, c.s, c.want, api.OK)
	}
}

// forms are texts that the grammar does not have.
var forms = []string{
	"", " ", "\n", "\t\r\n ", // something lacks
	"n", "nul", "nulll", "null1", "nullnull", "null null", "NULL", "Null", "nUll", "tru", "truE", "True", "fals", "falsee", "nil", "undefined", "NaN", "Infinity", "-Infinity", "n ull", "x",
	"-", "--1", "+1", "+", "-+1", "- 1", "-a", "1-", "1+1", "1 2", "1,2", "1,", ",1", ",",
	"00", "01", "-01", "007", "-0", "-00", "[-0]", "-0 ", "-01", "0x1", "0a", "1a", "1_000", "٣", "1٣",
	"1.", ".5", "1.0", "0.0", "-0.0", "-1.5", "1e2", "1E2", "1e+2", "1e-2", "0e0", "1.5e3", "1e", "-.5",
	"9007199254740992", "-9007199254740992", "9007199254740993", "10000000000000000", "90071992547409910",
	"9223372036854775807", "9223372036854775808", "-9223372036854775808", "18446744073709551615", "18446744073709551616", "18446744073709551617", "36893488147419103233",
	`"`, `"a`, `"a\`, `"\"`, `"a\"`, "a\"", "'a'", "`a`", `"a"b`, `"a""b"`, `"a" "b"`,
	"\"\x00\"", "\"\n\"", "\"\r\"", "\"\t\"", "\"\x1f\"", "\"\x08\"", "\"a\r\nb\"",
	`"\x"`, `"\a"`, `"\v"`, `"\0"`, `"\'"`, `"\B"`, `"\N"`, `"\ "`, `"\U0041"`, "\"\\\n\"", "\"\\\x00\"", "\"\\\xc3\xa4\"",
	`"\u"`, `"\u1"`, `"\u12"`, `"\u123"`, `"\u123`, `"\u`, `"\u12g4"`, `"\u 123"`, `"\u-123"`, `"\u+123"`, `"\u0x41"`, `"\u{41}"`, `"\u004:"`, `"\u004/"`, `"\u004@"`, `"\u004G"`, "\"\\u004`\"",
	`"\ud800"`, `"\udbff"`, `"\udc00"`, `"\udfff"`, `"\ud800`, `"\ud800x"`, `"\ud800\"`, `"\ud800\n"`, `"\ud800\u"`, `"\ud800\u0041"`, `"\ud800\ud800"`, `"\ud800\ud800\udc00"`, `"\udc00\ud800"`, `"\udc00\udc00"`,
	`"\ud800udc00"`, `"\ud800 \udc00"`, `"\ud800\/udc00"`, `"\ud800\Udc00"`, `"\ud800\udc0"`, `"\ud800\udbff"`, `"\ud800\ue000"`, `"\ud83d\ude00\ude00"`, `"a\ud83d"`,
	"\"\\ud83d\xed\xb8\x80\"", "\"\xed\xa0\xbd\\ude00\"", // half a pair in bytes is none
	"\"\xff\"", "\"\x80\"", "\"\xbf\"", "\"\xc3\"", "\"\xc3a\"", "\"\xe2\x82\"", "\"\xf0\x9f\x98\"", "\"\xc3", "\"\xf0\x9f\x98\x80",
	"\"\xc0\x80\"", "\"\xc0\xa2\"", "\"\xe0\x9f\xbf\"", "\"\xf0\x8f\xbf\xbf\"", "\"\xed\xa0\x80\"", "\"\xed\xbf\xbf\"", "\"\xed\xa0\xbd\xed\xb8\x80\"", "\"\xf4\x90\x80\x80\"", "\"\xf8\x88\x80\x80\x80\"",
	"\"a\xff\"", "\"\xffa\"", "\xff", "1\xff", "[\xff]", "{\"\xff\":1}",
	"[", "[1", "[1,", "[,", "[1,2", "[]]", "[1]]", "]", "[1}", "[}", "[,]", "[1,]", "[,1]", "[1,,2]", "[1 2]", "[1;2]", "[1:2]", "[:]", `["a":1]`, "[1]2", "[][]", "[] []", "(1)",
	"{", "{ ", `{"`, `{"a`, `{"a"`, `{"a":`, `{"a":1`, `{"a":1,`, "}", "{]", "{}}", `{"a":1]`, "{,}", "{:}", "{1:2}", "{a:1}", "{'a':1}", "{null:1}", "{[]:1}", "{{}:1}", "{{}}", "{[]}", "{1}",
	`{"a"}`, `{"a":}`, `{:1}`, `{"a" 1}`, `{"a",1}`, `{"a"=1}`, `{"a"::1}`, `{"a":1,}`, `{,"a":1}`, `{"a":1,,"b":2}`, `{"a":1 "b":2}`, `{"a":1;"b":2}`, `{"a":1:2}`, `{"a":1,"b"}`, `{"a":1,2}`, `{}{}`, `{"a" "b":1}`,
	"\v1", "\f1", "\x001", "1\x00", "1\v", "1\f", "[\v]", "\u00a01", "1\u00a0", "\u20281", "\u0085", "\ufeff1", "\ufeff", "1\ufeff", // no blanks
	"/**/1", "//\n1", "1//", "#\n1", "1;", "[1]#",
	"[\"a\",\"b\n\"]", `{"a":{"b":tru}}`, `[[1],[2,[3,}]]`,
}

// 7.1: ErrForm.
func TestParseForm(t *testing.T) {
	for _, s := range forms {
		hold(t, s, api.Node{}, api.ErrForm)
		hold(t, " "+s, api.Node{}, api.ErrForm)
		holdAll(t, s)
		holdAll(t, "["+s) // which may end here
		holdAll(t, `{"b":2,"c":`+s)
	}
}

// nested is n arrays or objects, by turns as turn says, in one another.
func nested(n, turn int) (opening, closing string) {
	for i := range n {
		if turn>>(i%2)&1 == 0 {
			opening, closing = opening+"[", "]"+closing
		} else {
			opening, closing = opening+` {"a": `, " }"+closing
		}
	}
	return opening, closing
}

// 7.1: ErrDeep, at the opening of what is too deep.
func TestParseDeep(t *testing.T) {
	for turn := range 4 {
		all, allEnd := nested(api.MaxNest, turn)
		most, mostEnd := nested(api.MaxNest-1, turn)
		for _, c := range []struct {
			s    string
			want api.Errno
		}{
			{all + "1" + allEnd, api.OK},
			{most + "[]" + mostEnd, api.OK},
			{most + "{}" + mostEnd, api.OK},
			{most + "[[]]" + mostEnd, api.ErrDeep},
			{most + "[1,{}]" + mostEnd, api.ErrDeep},
			{all + "[", api.ErrDeep}, // nothing more is looked at
			{all + "{", api.ErrDeep},
			{all + " [", api.ErrDeep},
			{all + "[]" + allEnd, api.ErrDeep},
			{all + "{}" + allEnd, api.ErrDeep},
			{all + "[\xff", api.ErrDeep},
			{all + "[x", api.ErrDeep},
			{all + strings.Repeat("[", 60000), api.ErrDeep},
			{all + `"[{"` + allEnd, api.OK}, // in a text it opens nothing
			{all, api.ErrForm},              // what stands ahead of an opening counts first
			{all + "x[", api.ErrForm},
			{all + "1[", api.ErrForm},
			{all + "-0,[", api.ErrForm},
			{all + `"\x",[`, api.ErrForm},
			{all + ",[", api.ErrForm},
			{all + "(", api.ErrForm},
			{all + "1" + allEnd + "[", api.ErrForm}, // behind the value
			{all + "1" + allEnd + "]", api.ErrForm},
			{`{"b":1,"b":` + all + "[", api.ErrTwice},
			{most + `{"b":1,"b":[`, api.ErrTwice},
			{most + `{"b":1,"b[`, api.ErrForm},
			{most + `{"b":[,"b":1`, api.ErrDeep},
			{most + `{[`, api.ErrForm}, // a key may not open
			{most + `{{`, api.ErrForm},
			{most + `{"b"[`, api.ErrForm},
			{most + `{"b":1,[`, api.ErrForm},
			{most + `[][`, api.ErrForm},
		} {
			if n, e := Parse([]byte(c.s)); e != c.want || e == api.OK && n.Kind == 0 || e != api.OK && !same(n, api.Node{}) {
				t.Errorf("Parse(%.200q) is %v, %d; want %d", c.s, n, e, c.want)
			}
		}
		// What stands one behind the other is not in one another.
		deep := most + "1" + mostEnd
		if _, e := Parse([]byte("[" + deep + strings.Repeat(","+deep, 50) + "]")); e != api.OK {
			t.Errorf("as deep as may be, again and again: %d", e)
		}
		hold(t, "["+deep+","+deep+",["+deep+"]]", api.Node{}, api.ErrDeep)
	}
}

// 7.1: ErrTwice, at the key's end.
func TestParseTwice(t *testing.T) {
	for _, c := range []struct {
		s    string
		want api.Errno
	}{
		{`{"a":1,"a":1}`, api.ErrTwice},
		{`{"a":1,"a":2}`, api.ErrTwice},
		{`{"":1,"":1}`, api.ErrTwice},
		{`{"a":1,"b":1,"a":1}`, api.ErrTwice},
		{`{"a":1,"b":1,"b":1}`, api.ErrTwice},
		{`{"a":1,"\u0061":1}`, api.ErrTwice}, // by what they say
		{`{"\u0061":1,"a":1}`, api.ErrTwice},
		{`{"/":1,"\/":1}`, api.ErrTwice},
		{`{"\n":1,"\u000a":1}`, api.ErrTwice},
		{`{"\u000A":1,"\u000a":1}`, api.ErrTwice},
		{`{"😀":1,"\ud83d\ude00":1}`, api.ErrTwice},
		{`{"\\u0061":1,"a":1}`, api.OK},
		{`{"\u0000":1,"":1}`, api.OK},
		{`{"ä":1,"a\u0308":1}`, api.OK}, // byte by byte, by no other form of a sign
		{`{"a":1,"A":1}`, api.OK},
		{`{"a":1,"a ":1," a":1}`, api.OK},
		{`{"a":{"a":1}}`, api.OK},
		{`{"a":{"b":1},"b":1}`, api.OK},
		{`{"a":[{"a":1},{"a":1}]}`, api.OK},
		{`{"a":{"b":1},"a":1}`, api.ErrTwice},
		{`{"a":{"b":1,"b":1}}`, api.ErrTwice},
		{`[{"a":1,"a":1}]`, api.ErrTwice},
		{`{"a":1,"b":{"a":1},"a":1}`, api.ErrTwice},
		{`{"a":1,"a"`, api.ErrTwice}, // at the key's end, whatever stands behind it
		{`{"a":1,"a"x`, api.ErrTwice},
		{`{"a":1,"a"}`, api.ErrTwice},
		{`{"a":1,"a",`, api.ErrTwice},
		{`{"a":1,"a":x}`, api.ErrTwice},
		{`{"a":1,"a"` + "\xff", api.ErrTwice},
		{`{"a":1, "a":1}x`, api.ErrTwice},
		{`{"a":1,"a`, api.ErrForm}, // not ahead of it
		{`{"a":1,"a\`, api.ErrForm},
		{`{"a":1,"a` + "\n\"", api.ErrForm},
		{`{"a":1,"a` + "\xff\":1}", api.ErrForm},
		{`{"a":x,"a":1}`, api.ErrForm}, // the first from the left
		{`{"a":1.5,"a":1}`, api.ErrForm},
		{`{"a" 1,"a":1}`, api.ErrForm},
		{`{"a":1 "a":1}`, api.ErrForm},
		{`{"a":1,,"a":1}`, api.ErrForm},
		{`{"a":"` + "\xff" + `","a":1}`, api.ErrForm},
		{`{"a":9007199254740992,"a":1}`, api.ErrForm},
		{`{"a":1}{"a":1,"a":1}`, api.ErrForm},
	} {
		if n, e := Parse([]byte(c.s)); e != c.want || e == api.OK && n.Kind == 0 || e != api.OK && !same(n, api.Node{}) {
			t.Errorf("Parse(%q) is %v, %d; want %d", c.s, n, e, c.want)
		}
	}
}

// 7.1: ErrLong, ahead of all else.
func TestParseLong(t *testing.T) {
	blanks := strings.Repeat(" ", api.MaxJson)
	hold(t, blanks[1:]+"1", num(1), api.OK)
	hold(t, "1"+blanks[1:], num(1), api.OK)
	hold(t, blanks, api.Node{}, api.ErrForm)
	letters := strings.Repeat("a", api.MaxJson-2)
	hold(t, `"`+letters+`"`, str(letters), api.OK)
	escapes := strings.Repeat(`\u0061`, (api.MaxJson-2)/6)
	hold(t, `"`+escapes+`"`, str(letters[:(api.MaxJson-2)/6]), api.OK) // by bytes of b, not of what it tells
	for _, s := range []string{
		blanks + "1", "1" + blanks, blanks + " ", `"` + letters + `a"`, // right but for its length
		strings.Repeat("ä", api.MaxJson/2) + "a",
		strings.Repeat("x", api.MaxJson+1), // wrong in each other way, too
		strings.Repeat("\xff", api.MaxJson+1),
		strings.Repeat("[", api.MaxJson+1),
		strings.Repeat("1", api.MaxJson+1),
		`{"a":1,"a":1}` + blanks,
		strings.Repeat("[]", 1<<22),
	} {
		hold(t, s, api.Node{}, api.ErrLong)
	}
	for s, want := range map[string]api.Errno{"x": api.ErrForm, "\xff": api.ErrForm, "[": api.ErrDeep, "1": api.ErrForm, "\"": api.ErrForm, "-": api.ErrForm} {
		hold(t, strings.Repeat(s, api.MaxJson), api.Node{}, want)
	}
}

// 7.1 and 7.2: as many kids and keys as a text may have.
func TestParseMany(t *testing.T) {
	kids := make([]api.Node, (api.MaxJson-1)/2)
	for i := range kids {
		kids[i] = num(i % 10)
	}
	var b strings.Builder
	for i := range kids {
		b.WriteString("[,"[min(i, 1):][:1] + strconv.Itoa(i%10))
	}
	hold(t, b.String()+"]", arr(kids...), api.OK)
	var s string
	n := api.Node{Kind: api.JObj}
	b.Reset()
	for i := 0; b.Len() < api.MaxJson-40; i++ {
		s = strconv.FormatInt(int64(i), 36)
		b.WriteString("{,"[min(i, 1):][:1] + `"` + s + `":1`)
		n.Keys, n.Kids = append(n.Keys, s), append(n.Kids, num(1))
	}
	hold(t, b.String()+"}", n, api.OK)
	hold(t, b.String()+`,"0":1}`, api.Node{}, api.ErrTwice)
	hold(t, b.String()+`,"`+s+`"`, api.Node{}, api.ErrTwice)
}

// The oracle: the library says how far the grammar goes, and of what stands up to there each piece is looked at, one by one.
var (
	piece  = regexp.MustCompile(`"(?:[^"\\]|\\.)*\\?(?:"|$)|-?[0-9][0-9.eE+-]*|[\[\]{}:,]|[a-z]+`)
	whole  = regexp.MustCompile(`^(?:0|-?[1-9][0-9]*)$`)
	unit   = regexp.MustCompile(`\\(?:u[0-9A-Fa-f]{4}|.)`)
	maxNum = big.NewInt(api.MaxNum)
)

// grammatical is the longest beginning of s with which the library finds no fault, and whether nothing lacks in it.
func grammatical(s string) (string, bool) {
	var raw json.RawMessage
	err := json.Unmarshal([]byte(s), &raw)
	if err == nil {
		return s, true
	}
	if err.Error() == "unexpected end of JSON input" {
		return s, false
	}
	return s[:err.(*json.SyntaxError).Offset-1], false
}

// isPaired tells whether all escapes of halves of pairs in a text have their other halves.
func isPaired(text string) bool {
	text = unit.ReplaceAllStringFunc(text, func(found string) string {
		if found[1] != 'u' {
			return "e"
		}
		n, _ := strconv.ParseUint(found[2:], 16, 16)
		switch {
		case !utf16.IsSurrogate(rune(n)):
			return "e"
		case n < 0xdc00:
			return "\x01"
		}
		return "\x02"
	})
	text = strings.ReplaceAll(text, "\x01\x02", "")
	return !strings.ContainsAny(text, "\x01\x02")
}

// plainFault is the error of a piece by itself.
func plainFault(s string) api.Errno {
	switch {
	case s[0] == '"':
		if !utf8.ValidString(s) || !isPaired(s) {
			return api.ErrForm
		}
	case s[0] == '-' || s[0] >= '0' && s[0] <= '9':
		n, ok := new(big.Int).SetString(s, 10)
		if !whole.MatchString(s) || !ok || n.CmpAbs(maxNum) > 0 {
			return api.ErrForm
		}
	}
	return api.OK
}

// wantError is the error that Parse must tell of s.
func wantError(s string) api.Errno {
	if len(s) > api.MaxJson {
		return api.ErrLong
	}
	s, complete := grammatical(s)
	var opened []map[string]bool // the keys of an object; of an array nil
	last := ""
	for _, p := range piece.FindAllString(s, -1) {
		if e := plainFault(p); e != api.OK {
			return e
		}
		switch {
		case p == "[" || p == "{":
			if len(opened) == api.MaxNest {
				return api.ErrDeep
			}
			opened = append(opened, map[string]map[string]bool{"{": {}}[p])
		case p == "]" || p == "}":
			opened = opened[:len(opened)-1]
		case p[0] == '"' && (last == "{" || last == "," && opened[len(opened)-1] != nil):
			keys, key := opened[len(opened)-1], ""
			if json.Unmarshal([]byte(p), &key) != nil {
				return api.ErrForm // it is not ended
			}
			if keys[key] {
				return api.ErrTwice
			}
			keys[key] = true
		}
		last = p
	}
	if !complete {
		return api.ErrForm
	}
	return api.OK
}

// nodeOf is what the library reads of a text that is right.
func nodeOf(d *json.Decoder) api.Node {
	token, _ := d.Token()
	n := api.Node{}
	switch token := token.(type) {
	case nil:
		n.Kind = api.JNull
	case bool:
		n.Kind = api.JFalse
		if token {
			n.Kind = api.JTrue
		}
	case json.Number:
		n.Kind = api.JNum
		n.Num, _ = strconv.Atoi(token.String())
	case string:
		n.Kind, n.Text = api.JStr, token
	case json.Delim:
		n.Kind = map[json.Delim]int{'[': api.JArr, '{': api.JObj}[token]
		for d.More() {
			if n.Kind == api.JObj {
				key, _ := d.Token()
				n.Keys = append(n.Keys, key.(string))
			}
			n.Kids = append(n.Kids, nodeOf(d))
		}
		d.Token()
	}
	return n
}

// holdAll holds Parse of s against the library.
func holdAll(t *testing.T, s string) {
	t.Helper()
	e := wantError(s)
	if e != api.OK {
		hold(t, s, api.Node{}, e)
		return
	}
	d := json.NewDecoder(strings.NewReader(s))
	d.UseNumber()
	hold(t, s, nodeOf(d), api.OK)
}

// seeds are texts near which others are tried.
var seeds = []string{
	`[1, "a"]`, `{"a":1,"b":[null,true,false]}`, `{"ab":{"a":-7},"a":{"a":0}}`, `"a\"\\\/\b\f\n\r\t\u00e4\ud83d\ude00b"`,
	`"ä日😀"`, `{"ä":"\u0000","\u00E4b":""}`, "9007199254740991", "-9007199254740991", " [ [ 10 , 20 ] , { } ] ", `[0,-1,"",[],{}]`,
	strings.Repeat("[", api.MaxNest) + strings.Repeat("]", api.MaxNest),
	strings.Repeat(`{"a":`, api.MaxNest-1) + `[1]` + strings.Repeat("}", api.MaxNest-1),
	`{"a":1,"\u0061":1}`, `{"a":1.5e3,"a":2}`, `[1,2,{"a":[],"a":[]}`,
}

// 7.1: one byte another one, one more, one less; a text cut anywhere.
func TestParseNearby(t *testing.T) {
	for _, s := range append(seeds, forms...) {
		for at := range len(s) + 1 {
			holdAll(t, s[:at])
			holdAll(t, s[at:])
			if at < len(s) {
				holdAll(t, s[:at]+s[at+1:])
			}
		}
	}
	for _, s := range seeds {
		for at := range len(s) + 1 {
			for c := range 256 {
				holdAll(t, s[:at]+string([]byte{byte(c)})+s[at:])
				if at < len(s) {
					holdAll(t, s[:at]+string([]byte{byte(c)})+s[at+1:])
				}
			}
		}
	}
}

// each calls f with all rows of up to n pieces.
func each(pieces []string, n int, f func(string)) {
	f("")
	if n == 0 {
		return
	}
	each(pieces, n-1, func(s string) {
		// A shorter row came already, but what is put ahead of it makes it a new one.
		for _, p := range pieces {
			f(p + s)
		}
	})
}

// 7.1: all short rows of pieces.
func TestParseShort(t *testing.T) {
	for _, pieces := range [][]string{
		{"[", "]", "{", "}", ":", ",", `"a"`, `"\u0061"`, "1", " "},
		{"0", "1", "9", "-", "+", ".", "e", "E", " ", ",", "["},
		{`"`, `\`, "u", "n", "/", "d800", "dc00", "DBFF", "0061", "\xc3\xa4", "\xed\xa0\x80"},
	} {
		seen := map[string]bool{}
		each(pieces, 5, func(s string) {
			if !seen[s] {
				seen[s] = true
				holdAll(t, s)
			}
		})
	}
	inText := []string{`\`, "u", "d800", "DFFF", "0061", "\x1f", "\xa4", "\xc3", `"`}
	each(inText, 5, func(s string) { holdAll(t, `"`+s+`"`) })
	inObject := []string{"{", "}", `"a"`, `"b"`, `:`, `,`, `1`, "-0"}
	each(inObject, 5, func(s string) { holdAll(t, `{"a":1,`+s) })
}

// 7.1: each text of one byte and of two, by itself and in a text.
func TestParseEachBytes(t *testing.T) {
	for i := range 1 << 16 {
		for _, b := range [][]byte{{byte(i)}, {byte(i >> 8), byte(i)}} {
			holdAll(t, string(b))
			holdAll(t, `"`+string(b)+`"`)
			holdAll(t, `"\`+string(b)+`"`)
			holdAll(t, `{"`+string(b)+`":1}`)
		}
	}
}

// 7.2: each unit of UTF-16, each pair of some.
func TestParseEachUnit(t *testing.T) {
	const digits, more = "0123456789abcdef", "0123456789ABCDEF"
	spell := func(n int, digits string) string {
		return `\u` + string([]byte{digits[n>>12], digits[n>>8&15], digits[n>>4&15], digits[n&15]})
	}
	for n := range 1 << 16 {
		want, e := str(string(rune(n))), api.OK
		if n >= 0xd800 && n <= 0xdfff {
			want, e = api.Node{}, api.ErrForm
		}
		hold(t, `"`+spell(n, digits)+`"`, want, e)
		hold(t, `"`+spell(n, more)+`"`, want, e)
	}
	units := []int{0, 0x41, 0xd7ff, 0xd800, 0xd801, 0xd83d, 0xdaaa, 0xdbfe, 0xdbff, 0xdc00, 0xdc01, 0xde00, 0xddab, 0xdffe, 0xdfff, 0xe000, 0xffff}
	for n := 0xd700; n < 0xe100; n++ {
		for _, m := range units {
			for _, pair := range [][]int{{n, m}, {m, n}} {
				s := `"` + spell(pair[0], digits) + spell(pair[1], more) + `"`
				points := utf16.Decode([]uint16{uint16(pair[0]), uint16(pair[1])})
				if strings.ContainsRune(string(points), '\ufffd') {
					hold(t, s, api.Node{}, api.ErrForm)
				} else {
					hold(t, s, str(string(points)), api.OK)
				}
			}
		}
	}
}

// 7.2: each code point as it stands, and as it is escaped.
func TestParseEachPoint(t *testing.T) {
	for r := rune(' '); r <= utf8.MaxRune; r++ {
		if r == '"' || r == '\\' || !utf8.ValidRune(r) {
			continue
		}
		hold(t, `"`+string(r)+`"`, str(string(r)), api.OK)
		if first, second := utf16.EncodeRune(r); r > 0xffff && r%7 == 0 {
			hold(t, `"\u`+strconv.FormatInt(int64(first), 16)+`\u`+strconv.FormatInt(int64(second), 16)+`"`, str(string(r)), api.OK)
		}
	}
}

// 7.1: numbers around each power of ten and of two, both ways.
func TestParseNumbers(t *testing.T) {
	for _, base := range []int64{2, 10} {
		for power := big.NewInt(1); power.BitLen() < 300; power = new(big.Int).Mul(power, big.NewInt(base)) {
			for d := int64(-3); d <= 3; d++ {
				s := new(big.Int).Add(power, big.NewInt(d)).String()
				for _, s := range []string{s, "-" + s, "0" + s, s + "0", s + ".0", s + "e0"} {
					holdAll(t, s)
					holdAll(t, "["+s+"]")
				}
			}
		}
	}
	for n := -100000; n <= 100000; n++ {
		hold(t, strconv.Itoa(n), num(n), api.OK)
	}
	for n := range 1 << 18 {
		n := api.MaxNum - 68719476721*n // both ways
		if got, e := Parse(strconv.AppendInt(nil, int64(n), 10)); e != api.OK || got.Num != n {
			t.Fatalf("%d: %v, %d", n, got, e)
		}
	}
}

// some makes any value that is right, within so many others.
func some(r *rand.Rand, around int) api.Node {
	kind := 1 + r.Intn(api.JObj)
	if around == api.MaxNest {
		kind = 1 + r.Intn(api.JStr)
	}
	n := api.Node{Kind: kind}
	switch kind {
	case api.JNum:
		n.Num = (r.Intn(2)*2 - 1) * r.Intn(1<<r.Intn(53)+1) % (api.MaxNum + 1)
	case api.JStr:
		n.Text = someText(r)
	case api.JArr, api.JObj:
		seen := map[string]bool{}
		for range r.Intn(4) {
			key := someText(r)
			if kind == api.JObj && !seen[key] {
				n.Keys = append(n.Keys, key)
			}
			if kind == api.JArr || !seen[key] {
				n.Kids = append(n.Kids, some(r, around+1))
			}
			seen[key] = true
		}
	}
	return n
}

func someText(r *rand.Rand) string {
	points := []rune("ab\"\\/\b\f\n\r\t\x00\x1f\x7fä日😀\ud7ff\ue000\uffff\U00010000\U0010ffff")
	var s []rune
	for range r.Intn(5) {
		s = append(s, points[r.Intn(len(points))])
	}
	return string(s)
}

// printed is the text of n as chapter 8 writes it.
func printed(n api.Node) string {
	switch n.Kind {
	case api.JNull, api.JFalse, api.JTrue:
		return []string{"null", "false", "true"}[n.Kind-api.JNull]
	case api.JNum:
		return strconv.Itoa(n.Num)
	case api.JStr:
		return printedText(n.Text)
	}
	var kids []string
	for i, k := range n.Kids {
		s := printed(k)
		if n.Kind == api.JObj {
			s = printedText(n.Keys[i]) + ":" + s
		}
		kids = append(kids, s)
	}
	if n.Kind == api.JObj {
		return "{" + strings.Join(kids, ",") + "}"
	}
	return "[" + strings.Join(kids, ",") + "]"
}

func printedText(s string) string {
	pairs := []string{`"`, `\"`, `\`, `\\`, "\b", `\b`, "\t", `\t`, "\n", `\n`, "\f", `\f`, "\r", `\r`}
	for c := range 32 {
		pairs = append(pairs, string(rune(c)), `\u00`+string("01"[c>>4])+string("0123456789abcdef"[c&15]))
	}
	return `"` + strings.NewReplacer(pairs...).Replace(s) + `"`
}

// spaced puts blanks around and between what s is made of.
func spaced(r *rand.Rand, s string) string {
	blanks := func() string { return []string{"", "", " ", "\t", "\n", "\r", "\r\n \t"}[r.Intn(7)] }
	return piece.ReplaceAllStringFunc(s, func(found string) string { return blanks() + found + blanks() })
}

// 7.3: what layer 8 prints is read back, with blanks between, too; and what is a byte away from it is as the library has it.
func TestParsePrinted(t *testing.T) {
	r := rand.New(rand.NewSource(7))
	for range 30000 {
		n := some(r, 0)
		s := printed(n)
		if len(s) > api.MaxJson {
			continue
		}
		hold(t, s, n, api.OK)
		s = spaced(r, s)
		hold(t, s, n, api.OK)
		for range 10 {
			b := []byte(s)
			b[r.Intn(len(b))] = "\"\\[]{}:,0-.e \n\x1f\xffab"[r.Intn(18)]
			holdAll(t, string(b))
		}
	}
	for c := range 32 {
		hold(t, printed(str(string(rune(c)))), str(string(rune(c))), api.OK)
	}
}

// lists is all lists of n, their spare room too.
func lists(n api.Node) (keys [][]string, kids [][]api.Node) {
	keys, kids = append(keys, n.Keys[:cap(n.Keys)]), append(kids, n.Kids[:cap(n.Kids)])
	for _, k := range n.Kids {
		moreKeys, moreKids := lists(k)
		keys, kids = append(keys, moreKeys...), append(kids, moreKids...)
	}
	return keys, kids
}

// R3: what is told shares nothing with b, nor one list of it with another; the same is told again.
func TestParseNewMemory(t *testing.T) {
	const s = `{"ab":["cd",["ef","gh","ij"],{"kl":[1,2,3],"mn":{},"op":[]}],"ä":"\n","z":[[],[],[[1],[2]]]}`
	b := []byte(s)
	n, e := Parse(b)
	want, _ := Parse([]byte(s))
	if e != api.OK {
		t.Fatal(e)
	}
	copy(b, bytes.Repeat([]byte("x"), len(b)))
	if !reflect.DeepEqual(n, want) {
		t.Errorf("%v hangs on what was handed in", n)
	}
	seen := map[any]bool{}
	keys, kids := lists(n)
	for _, l := range keys {
		for i := range l {
			if seen[&l[i]] {
				t.Error("two lists of keys share memory")
			}
			seen[&l[i]] = true
		}
	}
	for _, l := range kids {
		for i := range l {
			if seen[&l[i]] {
				t.Error("two lists of kids share memory")
			}
			seen[&l[i]] = true
		}
	}
	for _, l := range kids {
		clear(l)
	}
	if again, _ := Parse([]byte(s)); !same(again, want) {
		t.Errorf("%v was told, but %v ahead", again, want)
	}
	hold(t, "", api.Node{}, api.ErrForm)
	if n, e := Parse(nil); e != api.ErrForm || !same(n, api.Node{}) {
		t.Errorf("Parse(nil) is %v, %d", n, e)
	}
	spare := []byte(`[1]]x`)
	if n, e := Parse(spare[:3]); e != api.OK || !same(n, arr(num(1))) {
		t.Errorf("behind the end of b something was read: %v, %d", n, e)
	}
}

// calls tells how often name is called in node.
func calls(node ast.Node, name string) int {
	n := 0
	ast.Inspect(node, func(node ast.Node) bool {
		if call, ok := node.(*ast.CallExpr); ok {
			if id, ok := call.Fun.(*ast.Ident); ok && id.Name == name {
				n++
			}
		}
		return true
	})
	return n
}

// The chapter's way: the reader gives up by panic, and Parse alone recovers, in a deferred function.
func TestGiveUpByPanic(t *testing.T) {
	file, err := parser.ParseFile(token.NewFileSet(), "json.go", nil, 0)
	if err != nil {
		t.Fatal(err)
	}
	deferred, panics := 0, 0
	for _, d := range file.Decls {
		f, ok := d.(*ast.FuncDecl)
		if !ok {
			continue
		}
		if f.Recv != nil {
			panics += calls(f, "panic")
		}
		if f.Name.Name != "Parse" {
			continue
		}
		ast.Inspect(f, func(node ast.Node) bool {
			if d, ok := node.(*ast.DeferStmt); ok {
				deferred += calls(d, "recover")
			}
			return true
		})
	}
	if all := calls(file, "recover"); deferred != 1 || all != 1 {
		t.Errorf("%d of %d times recover is deferred in Parse", deferred, all)
	}
	if panics == 0 {
		t.Error("no method of the reader panics")
	}
}
