package point

import (
	"fmt"
	"go/ast"
	"go/parser"
	"go/token"
	"math/big"
	"math/rand"
	"regexp"
	"slices"
	"strconv"
	"strings"
	"testing"
	"unsafe"

	"pillarbox/api"
	"pillarbox/canon"
	"pillarbox/json"
)

// node is what a text of JSON tells.
func node(s string) api.Node {
	n, e := json.Parse([]byte(s))
	if e != api.OK {
		panic(s + " is no text of JSON")
	}
	return n
}

func arr(kids ...api.Node) api.Node { return api.Node{Kind: api.JArr, Kids: kids} }
func num(n int) api.Node            { return api.Node{Kind: api.JNum, Num: n} }

// pair is an object of one key.
func pair(key string, kid api.Node) api.Node {
	return api.Node{Kind: api.JObj, Keys: []string{key}, Kids: []api.Node{kid}}
}

// copied is n with lists of its own.
func copied(n api.Node) api.Node {
	n.Keys, n.Kids = slices.Clone(n.Keys), slices.Clone(n.Kids)
	for i := range n.Kids {
		n.Kids[i] = copied(n.Kids[i])
	}
	return n
}

// shown is the beginning of what is looked at, for what a test says.
func shown(what any) string {
	s := fmt.Sprintf("%.200v", what)
	return s[:min(len(s), 300)]
}

var (
	pointer = regexp.MustCompile(`^(?s:(/([^~/]|~[01])*)*)$`)
	escapes = strings.NewReplacer("~0", "~", "~1", "/")
)

// names is how a part names each of the kids of n.
func names(n api.Node) []string {
	if n.Kind == api.JObj {
		return n.Keys
	}
	var all []string
	for i := range n.Kids {
		all = append(all, strconv.Itoa(i))
	}
	return all
}

// wanted is what Get must tell: it goes on from all nodes that are reached at once, and opens the lists among them at last.
func wanted(n api.Node, path string) (api.Node, api.Errno) {
	if !canon.Right(n) {
		return api.Node{}, api.ErrArg
	}
	if len(path) > 1000 || !pointer.MatchString(path) {
		return api.Node{}, api.ErrForm
	}
	reached, many := []api.Node{n}, false
	for _, part := range strings.Split(path, "/")[1:] {
		var further []api.Node
		for _, k := range reached {
			if k.Kind == api.JArr && part == "*" {
				further, many = append(further, k.Kids...), true
				continue
			}
			at := slices.Index(names(k), escapes.Replace(part))
			if at < 0 {
				return api.Node{}, api.ErrNone
			}
			further = append(further, k.Kids[at])
		}
		reached = further
	}
	if !many {
		return reached[0], api.OK
	}
	all := arr()
	for _, k := range reached {
		if k.Kind == api.JArr {
			all.Kids = append(all.Kids, k.Kids...)
		} else {
			all.Kids = append(all.Kids, k)
		}
	}
	return all, api.OK
}

// hold holds Get against what it must tell.
func hold(t *testing.T, n api.Node, path string, want api.Node, wantE api.Errno) {
	t.Helper()
	before := copied(n)
	if got, e := Get(n, path); e != wantE || !canon.Same(got, want) {
		t.Fatalf("Get(%s, %s) is %s, %d; want %s, %d", shown(n), shown(strconv.Quote(path)), shown(got), e, shown(want), wantE)
	}
	if !canon.Same(n, before) {
		t.Fatalf("%s was changed", shown(before))
	}
}

func holdAll(t *testing.T, n api.Node, path string) {
	t.Helper()
	want, e := wanted(n, path)
	hold(t, n, path, want, e)
}

// 9.1: parts, one by one.
var found = []struct{ n, path, want string }{
	{`{"a":[7]}`, "/a/0", "7"}, // the chapter's example
	{`{"a":[7]}`, "/a", "[7]"},
	{`{"a":[7]}`, "", `{"a":[7]}`},
	{"null", "", "null"},
	{"-5", "", "-5"},
	{`"a"`, "", `"a"`},
	{"[]", "", "[]"},
	{"{}", "", "{}"},
	{"[[1],[2]]", "", "[[1],[2]]"},
	{`{"a":1}`, "/a", "1"},
	{`{"b":2,"a":1}`, "/a", "1"},
	{`{"a":{"b":{"c":"d"}}}`, "/a/b/c", `"d"`},
	{`{"a":{"b":{"c":"d"}}}`, "/a/b", `{"c":"d"}`},
	{"[10,20,30]", "/0", "10"},
	{"[10,20,30]", "/2", "30"},
	{"[0,1,2,3,4,5,6,7,8,9,11]", "/10", "11"},
	{"[[10],[20,[30]]]", "/1/1/0", "30"},
	{`[{"0":[5]}]`, "/0/0/0", "5"},
	{"[false,true,null]", "/1", "true"},
	// Empty parts.
	{`{"":4}`, "/", "4"},
	{`{"":{"":1}}`, "//", "1"},
	{`{"":{"":1}}`, "/", `{"":1}`},
	{`{"a":{"":[7]}}`, "/a//0", "7"},
	{`{"a":{"":7}}`, "/a/", "7"},
	// Keys that look like numbers.
	{`{"1":1,"0":2}`, "/0", "2"},
	{`{"0":1,"00":2,"01":3,"-1":4,"+0":5,"-":6,"99999999999999999999":7}`, "/00", "2"},
	{`{"0":1,"00":2,"01":3,"-1":4,"+0":5,"-":6,"99999999999999999999":7}`, "/01", "3"},
	{`{"0":1,"00":2,"01":3,"-1":4,"+0":5,"-":6,"99999999999999999999":7}`, "/-1", "4"},
	{`{"0":1,"00":2,"01":3,"-1":4,"+0":5,"-":6,"99999999999999999999":7}`, "/+0", "5"},
	{`{"0":1,"00":2,"01":3,"-1":4,"+0":5,"-":6,"99999999999999999999":7}`, "/-", "6"},
	{`{"0":1,"00":2,"01":3,"-1":4,"+0":5,"-":6,"99999999999999999999":7}`, "/99999999999999999999", "7"},
	// Escapes.
	{`{"x/y":5}`, "/x~1y", "5"},
	{`{"~":6}`, "/~0", "6"},
	{`{"/":6}`, "/~1", "6"},
	{`{"~1":1,"/":2}`, "/~01", "1"}, // a `~` by an escape makes no other escape
	{`{"~0":1,"~":2}`, "/~00", "1"},
	{`{"~/":1}`, "/~0~1", "1"},
	{`{"/~":1}`, "/~1~0", "1"},
	{`{"/0":1,"/1":2}`, "/~10", "1"},
	{`{"/0":1,"/1":2}`, "/~11", "2"},
	{`{"~~":{"//":1}}`, "/~0~0/~1~1", "1"},
	{`{"a~b/c":{"/":[8]}}`, "/a~0b~1c/~1/0", "8"},
	{`{"~":{"0":1},"~0":2}`, "/~0/0", "1"},
	// No other escapes.
	{`{"%61":1,"a":2}`, "/%61", "1"},
	{`{"\\u0061":1,"a":2}`, `/\u0061`, "1"},
	{`{"\"":1}`, `/"`, "1"},
	{`{" a ":1,"a":2}`, "/ a ", "1"},
	{`{"\n\u0000":1}`, "/\n\x00", "1"},
	{`{"ä😀":{"日":1}}`, "/ä😀/日", "1"},
	{`{"#":1}`, "/#", "1"},
	// `*`.
	{"[]", "/*", "[]"},
	{"[1]", "/*", "[1]"},
	{"[3,1,2]", "/*", "[3,1,2]"},
	{"[1,1,1]", "/*", "[1,1,1]"},
	{`[{"a":1},"b",null]`, "/*", `[{"a":1},"b",null]`},
	{`{"a":[1,[2],3]}`, "/a/*", "[1,2,3]"}, // its Kids, one by one
	{"[[1],[2]]", "/*", "[1,2]"},
	{"[[],[]]", "/*", "[]"},
	{"[[],1,[]]", "/*", "[1]"},
	{"[[[1]],[[2,[3]]]]", "/*", "[[1],[2,[3]]]"},
	{"[[[1]],[[2,[3]]]]", "/*/*", "[1,2,[3]]"},
	{"[[[1]],[[2,[3]]]]", "/*/*/*", "[1,2,3]"},
	{"[[[1]],[[2,[3]]]]", "/*/0", "[1,2,[3]]"},
	{"[[[1]],[[2,[3]]]]", "/1/*", "[2,[3]]"},
	{"[[[1]],[[2,[3]]]]", "/*/0/0", "[1,2]"},
	{"[[[]],[[],[[]]]]", "/*/*", "[[]]"},
	{"[[1,2],[3]]", "/*/0", "[1,3]"},
	{`[{"a":1},{"a":2},{"a":1}]`, "/*/a", "[1,2,1]"},
	{`[{"a":[]},{"a":[[]]},{"a":{}}]`, "/*/a", "[[],{}]"},
	{`[{"a":[{"b":[1]},{"b":[2,3]}]},{"a":[{"b":4}]},{"a":[]}]`, "/*/a/*/b", "[1,2,3,4]"},
	{`[{"a":[{"b":[1]},{"b":[2,3]}]},{"a":[]}]`, "/*/a/*", `[{"b":[1]},{"b":[2,3]}]`},
	{`{"list":[{"emailIds":["m1"]},{"emailIds":["m3","m2"]},{"emailIds":[]}]}`, "/list/*/emailIds", `["m1","m3","m2"]`},
	{`[[{"a/b":1}],[{"a/b":2}]]`, "/*/*/a~1b", "[1,2]"},
	{`[{"":1},{"":2}]`, "/*/", "[1,2]"},
	// Of no kids anything is told.
	{"[]", "/*/a", "[]"},
	{"[]", "/*/*/0/x/~0", "[]"},
	{`{"e":[]}`, "/e/*/z/0", "[]"},
	{"[[],[]]", "/*/*/a", "[]"},
	// `*` of an object is a key.
	{`{"*":1}`, "/*", "1"},
	{`{"*":[1,[2]]}`, "/*", "[1,[2]]"},
	{`{"*":[1,[2]]}`, "/*/*", "[1,2]"},
	{`{"*":{"*":1}}`, "/*/*", "1"},
	{`{"**":1,"*":2}`, "/**", "1"},
	{`[{"*":1},{"*":2}]`, "/*/*", "[1,2]"},
	{`[{"*":[1,2]},[3,4],[{"a":5}],{"*":{}}]`, "/*/*", `[1,2,3,4,{"a":5},{}]`},
}

func TestGet(t *testing.T) {
	for _, c := range found {
		if want, e := wanted(node(c.n), c.path); e != api.OK || !canon.Same(want, node(c.want)) {
			t.Fatalf("the oracle is wrong of %s, %s", c.n, c.path)
		}
		hold(t, node(c.n), c.path, node(c.want), api.OK)
		hold(t, arr(num(0), node(c.n)), "/1"+c.path, node(c.want), api.OK)
		hold(t, pair("a/", node(c.n)), "/a~1"+c.path, node(c.want), api.OK)
		holdAll(t, arr(node(c.n), node(c.n), node(c.n)), "/*"+c.path)
		holdAll(t, arr(arr(node(c.n)), arr(), arr(node(c.n), node(c.n))), "/*/*"+c.path)
	}
	// RFC 6901's own examples.
	n := node(`{"foo":["bar","baz"],"":0,"a/b":1,"c%d":2,"e^f":3,"g|h":4,"i\\j":5,"k\"l":6," ":7,"m~n":8}`)
	for i, path := range []string{"/", "/a~1b", "/c%d", "/e^f", "/g|h", `/i\j`, `/k"l`, "/ ", "/m~0n"} {
		hold(t, n, path, num(i), api.OK)
	}
	hold(t, n, "", n, api.OK)
	hold(t, n, "/foo", node(`["bar","baz"]`), api.OK)
	hold(t, n, "/foo/0", node(`"bar"`), api.OK)
}

// 9.1: ErrNone, of some kid, too.
func TestGetNone(t *testing.T) {
	for _, c := range []struct{ n, path string }{
		{`{"a":1}`, "/b"},
		{`{"a":1}`, "/A"},
		{`{"a":1}`, "/"},
		{`{"a":1}`, "/aa"},
		{`{"a":1}`, "/ a"},
		{`{"a":1}`, "/a/"},
		{`{"a":1}`, "/a/a"},
		{`{"a":1}`, "/a/0"},
		{`{"a":1}`, "//a"},
		{`{"a":1}`, "/0"}, // an object's kids have no numbers
		{`{"a":1}`, "/*"},
		{`{"ab":1}`, "/a"},
		{`{"a":{"b":1}}`, "/b"},
		{`{"a/b":1}`, "/a/b"},
		{`{"a":{"b":1}}`, "/a~1b"},
		{`{"~1":1}`, "/~1"},
		{`{"/":1}`, "/~01"},
		{`{"ä":1}`, "/a\u0308"},
		{`{"ä":1}`, "/\xe4"},
		{`{"ä":1}`, "/\xc3"},
		{`{"\ufffd":1}`, "/\xff"},
		{"{}", "/"},
		{"{}", "/a"},
		{"[]", "/"},
		{"[]", "/0"},
		{"[]", "/-"},
		{"[]", "/**"},
		{"[]", "/ *"},
		{"[]", "//*"},
		{"[1,2]", "/2"},
		{"[1,2]", "/-1"},
		{"[1,2]", "/-0"},
		{"[1,2]", "/+0"},
		{"[1,2]", "/+1"},
		{"[1,2]", "/00"},
		{"[1,2]", "/01"},
		{"[1,2]", "/001"},
		{"[1,2]", "/1 "},
		{"[1,2]", "/ 1"},
		{"[1,2]", "/1\x00"},
		{"[1,2]", "/1.0"},
		{"[1,2]", "/1e0"},
		{"[1,2]", "/0x1"},
		{"[1,2]", "/0b1"},
		{"[1,2]", "/1_"},
		{"[1,2]", "/0_1"},
		{"[1,2]", "/a"},
		{"[1,2]", "/"},
		{"[1,2]", "/-"},
		{"[1,2]", "/١"},  // another sign for 1
		{"[1,2]", "/１"},  // and another
		{"[1,2]", "/~0"}, // a `~`, not a 0
		{"[1,2]", "/~1"},
		{"[1,2]", "/0/"},
		{"[1,2]", "/0/0"},
		{"[1,2]", "/10"},
		{`["a"]`, "/a"},
		{"1", "/"},
		{"1", "/1"},
		{"1", "/*"},
		{`"ab"`, "/0"},
		{`"ab"`, "/*"},
		{`"a"`, "/a"},
		{"null", "/"},
		{"null", "/*"},
		{"true", "/true"},
		// Of some kid.
		{`[{"a":1},{"b":2}]`, "/*/a"},
		{`[{"b":1},{"a":2}]`, "/*/a"},
		{`[{"a":1},3,{"a":2}]`, "/*/a"},
		{`[{"a":1},{"a":1},{}]`, "/*/a"},
		{`[{"a":1},[]]`, "/*/a"},
		{`[{"a":1},[{"a":1}]]`, "/*/a"},
		{"[[1,2],[3]]", "/*/1"},
		{"[[1],[]]", "/*/0"},
		{"[[],1]", "/*/*"},
		{"[1,[]]", "/*/*"},
		{"[[],{}]", "/*/*"},
		{"[[[]],[[],1]]", "/*/*/*"},
		{`{"a":[[{"b":1}],[{"b":1},{"c":1}]]}`, "/a/*/*/b"},
		{"[1,2]", "/*/0"}, // the parts behind go on from the kids, not from the list of them
		{"[[1],[2]]", "/*/*/0"},
		{"[1,2]", "/*/"},
	} {
		hold(t, node(c.n), c.path, api.Node{}, api.ErrNone)
		hold(t, arr(num(0), node(c.n)), "/1"+c.path, api.Node{}, api.ErrNone)
		hold(t, pair("", node(c.n)), "/"+c.path, api.Node{}, api.ErrNone)
		hold(t, arr(node(c.n)), "/*"+c.path, api.Node{}, api.ErrNone)
		holdAll(t, arr(arr(), node(c.n)), "/*"+c.path)
	}
}

// 9.1: ErrForm, also where nothing would be found, or what is wrong stands behind what isn't there.
func TestGetForm(t *testing.T) {
	nodes := []api.Node{node("null"), node("[]"), node("[[],[]]"), node("{}"), node(`{"a":{"b":1}}`), node(`{"~":1,"~2":2,"~a":3,"a~":4,"":5,"/":6}`), node(`"a"`)}
	for _, path := range []string{
		"a", "a/b", "x/", "0", "*", " /a", "#/a", "#", "~0", "~1", "~", "\x00", "\xff", "-", "./a", "\\a", "~1a", "%2fa",
		"/~", "/~2", "/a~", "/~~", "/~~0", "/~0~", "/~/0", "/~/1", "/~a", "/~ ", "/~-1", "/~*", "/~\x00", "/~\xff", "/~２",
		"/a/~", "/a/b/~", "/b/~", "/a/b/c/d~", "/*/~", "/*/*/~9", "//~", "/~0/~1/~2", "/a~1b~", "/0/~", "/~0~0~0~", "/~01~",
	} {
		for _, n := range nodes {
			hold(t, n, path, api.Node{}, api.ErrForm)
		}
		for _, wrong := range []api.Node{{}, {Kind: -1}, arr(api.Node{}), pair("\xff", num(1))} {
			hold(t, wrong, path, api.Node{}, api.ErrArg) // ahead of ErrForm
		}
	}
}

// 9.1: each byte, and each two, at the beginning of the path, of a part, behind a `~`.
func TestGetEachBytes(t *testing.T) {
	n := node(`{"a":{"":1,"0":2,"1":[3]},"~":{"b":4},"/":5,"*":6}`)
	for i := range 256 {
		b := string([]byte{byte(i)})
		if b != "0" && b != "1" {
			hold(t, n, "/~"+b, api.Node{}, api.ErrForm)
		}
		if b != "/" {
			hold(t, n, b, api.Node{}, api.ErrForm)
			hold(t, n, b+"/a", api.Node{}, api.ErrForm)
		}
		for k := range 256 {
			c := string([]byte{byte(k)})
			for _, path := range []string{b + c, "/" + b + c, "/~" + b + c, "/a/" + b + c, "/a" + b + c, "/~0/b" + b + c} {
				holdAll(t, n, path)
			}
			if key := b + c; b != "~" && c != "~" && b != "/" && c != "/" && i < 128 && k < 128 {
				hold(t, pair(key, num(i)), "/"+key, num(i), api.OK)
			}
		}
	}
}

// 9.1: 1000 bytes may be, and not one more.
func TestGetLong(t *testing.T) {
	// short holds what is told of a path unless it is too long.
	short := func(n api.Node, path string, want api.Node, wantE api.Errno) {
		t.Helper()
		if len(path) > 1000 {
			want, wantE = api.Node{}, api.ErrForm
		}
		hold(t, n, path, want, wantE)
	}
	for size := 995; size <= 1005; size++ {
		key := strings.Repeat("k", size-1)
		short(pair(key, num(size)), "/"+key, num(size), api.OK)
		short(pair(key+"k", num(size)), "/"+key, api.Node{}, api.ErrNone)
		short(pair("k", pair(key[2:], num(size))), "/k/"+key[2:], num(size), api.OK)
		// The path's bytes count, not its signs, nor what they say.
		said, left := strings.Repeat("/~", (size-1)/4), key[:(size-1)%4]
		short(pair(said+left, num(size)), "/"+strings.Repeat("~1~0", (size-1)/4)+left, num(size), api.OK)
		signs := strings.Repeat("ä", (size-1)/2) + key[:(size-1)%2]
		short(pair(signs, num(size)), "/"+signs, num(size), api.OK)
		// A great many parts.
		short(pair("", num(1)), strings.Repeat("/", size), api.Node{}, api.ErrNone)
		short(arr(), "/*"+strings.Repeat("/", size-2), arr(), api.OK)
		short(arr(), strings.Repeat("/*", size/2)+strings.Repeat("/", size%2), arr(), api.OK)
		short(arr(num(1)), "/"+strings.Repeat("0", size-1), api.Node{}, api.ErrNone)
		short(arr(num(1)), "/1"+strings.Repeat("0", size-2), api.Node{}, api.ErrNone)
		hold(t, arr(), key, api.Node{}, api.ErrForm)
		hold(t, arr(), "/"+strings.Repeat("~", size-1), api.Node{}, api.ErrForm)
		hold(t, api.Node{}, "/"+key, api.Node{}, api.ErrArg)
	}
	hold(t, num(1), strings.Repeat("/a", 1<<20), api.Node{}, api.ErrForm)
	hold(t, num(1), strings.Repeat("~", 1<<20), api.Node{}, api.ErrForm)
	hold(t, api.Node{}, strings.Repeat("/*", 1<<20), api.Node{}, api.ErrArg)
}

// 9.1: the kid at a number: each there is, and none else, however far off.
func TestGetNumbers(t *testing.T) {
	n := arr()
	for size := range 130 {
		for at := range 132 {
			want, e := num(at), api.OK
			if at >= size {
				want, e = api.Node{}, api.ErrNone
			}
			hold(t, n, "/"+strconv.Itoa(at), want, e)
			hold(t, n, "/0"+strconv.Itoa(at), api.Node{}, api.ErrNone)
			hold(t, n, "/-"+strconv.Itoa(at), api.Node{}, api.ErrNone)
			hold(t, n, "/+"+strconv.Itoa(at), api.Node{}, api.ErrNone)
		}
		n.Kids = append(n.Kids, num(size))
	}
	// What stands in the spare room isn't there.
	hold(t, arr(n.Kids[:3]...), "/3", api.Node{}, api.ErrNone)
	some := node("[0,1,2,3,4]")
	for _, base := range []int64{2, 10} {
		for power := big.NewInt(8); power.BitLen() < 300; power = new(big.Int).Mul(power, big.NewInt(base)) {
			for d := int64(-3); d <= 4; d++ {
				far := new(big.Int).Add(power, big.NewInt(d)).String()
				hold(t, some, "/-"+far, api.Node{}, api.ErrNone)
				if power.BitLen() > 4 {
					hold(t, some, "/"+far, api.Node{}, api.ErrNone)
					hold(t, arr(some), "/*/"+far, api.Node{}, api.ErrNone)
				}
			}
		}
	}
	wide := arr(slices.Repeat([]api.Node{num(0)}, 100000)...)
	wide.Kids[99999] = num(7)
	if got, e := Get(wide, "/99999"); e != api.OK || got.Num != 7 {
		t.Errorf("%v, %d", got, e)
	}
}

// 9.1: ErrArg of whatever isn't right, wherever it stands, also where the path doesn't go.
func TestGetArg(t *testing.T) {
	for _, wrong := range []api.Node{
		{},
		{Kind: -1},
		{Kind: api.JObj + 1},
		{Kind: api.JNull, Num: 1},
		{Kind: api.JTrue, Text: "a"},
		num(api.MaxNum + 1),
		num(-api.MaxNum - 1),
		{Kind: api.JNum, Kids: []api.Node{num(1)}},
		{Kind: api.JStr, Text: "\xff"},
		{Kind: api.JStr, Keys: []string{"a"}},
		{Kind: api.JArr, Keys: []string{"a"}, Kids: []api.Node{num(1)}},
		{Kind: api.JObj, Keys: []string{"a"}},
		{Kind: api.JObj, Kids: []api.Node{num(1)}},
		{Kind: api.JObj, Keys: []string{"a", "a"}, Kids: []api.Node{num(1), num(1)}},
		pair("\xff", num(1)),
	} {
		for _, n := range []api.Node{
			wrong, arr(wrong), arr(num(1), wrong), arr(arr(num(1)), arr(num(2), wrong)), pair("a", wrong),
			{Kind: api.JObj, Keys: []string{"a", "b"}, Kids: []api.Node{arr(num(1)), wrong}}, arr(pair("a", num(1)), pair("a", pair("b", wrong))),
		} {
			for _, path := range []string{"", "/", "/0", "/a", "/*", "/*/a", "/0/0", "/0/a", "/a/0", "/zz", "x", "/~"} {
				hold(t, n, path, api.Node{}, api.ErrArg)
			}
		}
	}
	for _, right := range []api.Node{
		{Kind: api.JArr, Keys: []string{}, Kids: []api.Node{}}, {Kind: api.JObj, Keys: []string{}}, {Kind: api.JNull, Kids: []api.Node{}},
		num(api.MaxNum), num(-api.MaxNum), {Kind: api.JStr, Text: "\x00\U0010ffff"},
	} {
		hold(t, right, "", right, api.OK)
		hold(t, pair("a", right), "/a", right, api.OK)
		hold(t, arr(right, right), "/1", right, api.OK)
	}
}

// nested is n in so many arrays and objects, by turns as turn says, with the path that leads to n.
func nested(n api.Node, times, turn int) (api.Node, string) {
	var parts []string
	for i := range times {
		if turn>>(i%2)&1 == 0 {
			n, parts = arr(n), append(parts, "/0")
		} else {
			n, parts = pair("*", n), append(parts, "/*")
		}
	}
	slices.Reverse(parts)
	return n, strings.Join(parts, "")
}

// 9.1: of what is nested as deep as may be, and deeper.
func TestGetNest(t *testing.T) {
	for turn := range 4 {
		for _, times := range []int{1, 2, 3, api.MaxNest - 1, api.MaxNest} {
			n, path := nested(num(7), times, turn)
			stars := strings.Repeat("/*", times)
			want := num(7)
			if strings.Contains(path, "0") { // in some array
				want = arr(want)
			}
			hold(t, n, path, num(7), api.OK)
			hold(t, n, stars, want, api.OK)
			hold(t, n, path+"/0", api.Node{}, api.ErrNone)
			hold(t, n, stars+"/*", api.Node{}, api.ErrNone)
			for end := 0; end <= len(path); end += 2 {
				holdAll(t, n, path[:end])
				holdAll(t, n, stars[:end])
				holdAll(t, n, stars[:end]+path[end:])
				holdAll(t, n, path[:end]+stars[end:])
			}
		}
		for _, times := range []int{api.MaxNest + 1, 1000, 1<<16 - 2} {
			n, path := nested(num(7), times, turn)
			for _, path := range []string{path, strings.Repeat("/*", times), "", "/0", "/*", "x"} {
				hold(t, n, path, api.Node{}, api.ErrArg)
			}
		}
	}
}

// 9.1: lists of a great many kids.
func TestGetWide(t *testing.T) {
	const many = 1 << 17
	n, want := arr(), arr()
	for i := range many {
		n.Kids = append(n.Kids, pair("a", arr(num(i), arr(num(-i)))))
		want.Kids = append(want.Kids, num(i), arr(num(-i)))
	}
	hold(t, n, "/*/a", want, api.OK)
	hold(t, arr(n), "/*/*/a", want, api.OK)
	hold(t, n, "/131071/a/0", num(many-1), api.OK)
	hold(t, n, "/131072/a/0", api.Node{}, api.ErrNone)
	n.Kids[many-1] = pair("b", num(1))
	hold(t, n, "/*/a", api.Node{}, api.ErrNone)
	deep := want
	for range api.MaxNest - 2 {
		deep = arr(deep)
	}
	flat := arr()
	for i := range many {
		flat.Kids = append(flat.Kids, num(i), num(-i))
	}
	hold(t, deep, strings.Repeat("/*", api.MaxNest-1), flat, api.OK)
	hold(t, deep, strings.Repeat("/*", api.MaxNest), api.Node{}, api.ErrNone)
}

// 9.1: all short paths out of some pieces, of some nodes.
func TestGetEachShort(t *testing.T) {
	var nodes []api.Node
	for _, s := range []string{
		"7", `"a"`, "[]", "{}", "[[],[]]", "[1,[2,[3,4]],[[5]]]",
		`{"a":{"a":1,"*":2,"0":3,"":4,"/":5,"~":6},"0":[7],"*":[8,[9]],"":{"":10},"~1":11,"/a":12,"~0":13}`,
		`[{"a":1,"*":[2],"":[3],"0":{"a":[4]}},{"a":[5,6],"*":7,"":[[8]],"0":{"a":{"0":[9]}}}]`,
		`{"a":[{"a":[],"0":[[1]]},{"a":[2],"0":3}],"0":[[4,5],[6,[7]]]}`,
	} {
		nodes = append(nodes, node(s))
	}
	pieces := []string{"/", "a", "0", "1", "*", "~"}
	paths := []string{""}
	for range 8 {
		var longer []string
		for _, path := range paths {
			for _, n := range nodes {
				holdAll(t, n, path)
			}
			// What doesn't begin with a `/` is looked at no further than two pieces.
			if len(path) < 2 || path[0] == '/' {
				for _, p := range pieces {
					longer = append(longer, path+p)
				}
			}
		}
		paths = longer
	}
}

// grown makes any values, within so many others.
func grown(r *rand.Rand, around int) api.Node {
	leaves := []string{"null", "true", "0", "-7", `""`, `"a"`, "[]", "{}"}
	if around > 5 || r.Intn(5) == 0 {
		return node(leaves[r.Intn(len(leaves))])
	}
	n := arr()
	if r.Intn(2) == 0 {
		n.Kind = api.JObj
	}
	// Alike in a list, so that a `*` finds something of each.
	first := grown(r, around+1)
	for _, key := range []string{"a", "", "*", "0", "/", "~", "~1", "a/b", "ä", "\xc3\xbf\n"}[r.Intn(8):][:1+r.Intn(2)] {
		kid := first
		if r.Intn(3) == 0 {
			kid = grown(r, around+1)
		}
		if n.Kind == api.JObj {
			n.Keys = append(n.Keys, key)
		}
		n.Kids = append(n.Kids, kid)
	}
	return n
}

// paths tells each node that stands in n, with a path that leads there.
func paths(n api.Node, path string, tell func(string, api.Node)) {
	tell(path, n)
	for i, name := range names(n) {
		part := strings.ReplaceAll(strings.ReplaceAll(name, "~", "~0"), "/", "~1")
		paths(n.Kids[i], path+"/"+part, tell)
	}
}

// 9.1: whatever stands in a node is found, and with numbers turned to `*`, or a byte to another, what the oracle finds.
func TestGetAny(t *testing.T) {
	r := rand.New(rand.NewSource(91))
	number := regexp.MustCompile(`[0-9]+`)
	counts := map[api.Errno]int{}
	for range 1000 {
		n := grown(r, 0)
		paths(n, "", func(path string, want api.Node) {
			hold(t, n, path, want, api.OK)
			for range 4 {
				other := number.ReplaceAllStringFunc(path, func(s string) string {
					return []string{"*", "*", "*", s, "1"}[r.Intn(5)]
				})
				if b := []byte(other); len(b) > 0 && r.Intn(4) == 0 {
					b[r.Intn(len(b))] = "/~01*a-\xff"[r.Intn(8)]
					other = string(b)
				}
				_, e := wanted(n, other)
				counts[e]++
				holdAll(t, n, other)
				holdAll(t, arr(n, n, grown(r, 4)), "/*"+other)
			}
		})
	}
	if min(counts[api.OK], counts[api.ErrForm], counts[api.ErrNone]) < 1000 {
		t.Errorf("too few of some: %v", counts)
	}
}

// places is where all items of the lists of some nodes stand, their spare room too.
func places(nodes ...api.Node) []unsafe.Pointer {
	var all []unsafe.Pointer
	for _, n := range nodes {
		for i := range n.Keys[:cap(n.Keys)] {
			all = append(all, unsafe.Pointer(&n.Keys[:cap(n.Keys)][i]))
		}
		for i := range n.Kids[:cap(n.Kids)] {
			all = append(all, unsafe.Pointer(&n.Kids[:cap(n.Kids)][i]))
		}
		all = append(all, places(n.Kids...)...)
	}
	return all
}

// texts is where the bytes of all texts of some nodes stand.
func texts(nodes ...api.Node) map[*byte]bool {
	all := map[*byte]bool{}
	for _, n := range nodes {
		for _, s := range append([]string{n.Text}, n.Keys...) {
			if s != "" {
				all[unsafe.StringData(s)] = true
			}
		}
		for place := range texts(n.Kids...) {
			all[place] = true
		}
	}
	return all
}

// R3: what is told shares nothing with what was handed in, nor with what was told ahead, nor one list of it with another.
func TestGetNewMemory(t *testing.T) {
	// The same kid stands in it again and again, with spare room.
	shared := node(`{"bc":["de",[2],{}],"":[]}`)
	shared.Keys = append(shared.Keys, "x", "y", "z")[:2]
	shared.Kids = append(shared.Kids, num(7), num(8), num(9))[:2]
	n := pair("ab", arr(shared, shared, pair("bc", arr(shared, shared.Kids[0]))))
	before := copied(n)
	for _, path := range []string{"", "/ab", "/ab/0", "/ab/*", "/ab/*/bc", "/ab/0/bc/*", "/ab/*/bc/*", "/ab/2/bc/0/bc"} {
		want, e := wanted(n, path)
		want = copied(want)
		if e != api.OK || len(places(want)) == 0 {
			t.Fatal("the oracle is wrong of", path)
		}
		seen := map[unsafe.Pointer]bool{}
		for _, place := range places(n) {
			seen[place] = true
		}
		var told []api.Node
		for range 3 {
			got, _ := Get(n, path)
			for _, place := range places(got) {
				if seen[place] {
					t.Fatalf("%s: lists share memory", path)
				}
				seen[place] = true
			}
			for place := range texts(got) {
				if texts(n)[place] {
					t.Fatalf("%s: texts share memory", path)
				}
			}
			told = append(told, got)
		}
		spoil(told[0])
		if !canon.Same(told[1], want) || !canon.Same(n, before) || shared.Keys[:3][2] != "x" || shared.Kids[:3][2].Num != 7 {
			t.Errorf("%s: who writes into one turns another", path)
		}
		if again, _ := Get(n, path); !canon.Same(again, want) {
			t.Errorf("%s: %v is told, but %v was ahead", path, again, want)
		}
	}
	got, _ := Get(n, "/ab")
	spoil(n)
	if !canon.Same(got, before.Kids[0]) {
		t.Error("what was told hangs on what was handed in")
	}
}

// spoil writes into each list of n, and appends to it.
func spoil(n api.Node) {
	for i := range n.Kids {
		spoil(n.Kids[i])
		n.Kids[i].Num++
	}
	for i := range n.Keys {
		n.Keys[i] += "turned"
	}
	_, _ = append(n.Keys, "more"), append(n.Kids, num(1))
}

// cuts is how many function literals in a file give a variable that stands outside of them the rest of itself.
func cuts(file *ast.File) int {
	n := 0
	ast.Inspect(file, func(outer ast.Node) bool {
		f, ok := outer.(*ast.FuncLit)
		if !ok {
			return true
		}
		ast.Inspect(f, func(inner ast.Node) bool {
			a, ok := inner.(*ast.AssignStmt)
			if !ok || a.Tok != token.ASSIGN || len(a.Lhs) != 1 {
				return true
			}
			to, ok := a.Lhs[0].(*ast.Ident)
			from, ok2 := a.Rhs[0].(*ast.SliceExpr)
			if ok && ok2 && to.Obj != nil && to.Obj.Pos() < f.Pos() && from.X.(*ast.Ident).Obj == to.Obj {
				n++
			}
			return true
		})
		return true
	})
	return n
}

// The chapter's way: parts are cut off by a closure.
func TestCutByClosure(t *testing.T) {
	file, err := parser.ParseFile(token.NewFileSet(), "point.go", nil, 0)
	if err != nil {
		t.Fatal(err)
	}
	if cuts(file) != 1 {
		t.Errorf("%d closures cut", cuts(file))
	}
	ast.Inspect(file, func(node ast.Node) bool {
		if s, ok := node.(*ast.SelectorExpr); ok && regexp.MustCompile(`^(Split|Fields)`).MatchString(s.Sel.Name) {
			t.Errorf("%s cuts parts, too", s.Sel.Name)
		}
		return true
	})
}
