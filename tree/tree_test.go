package tree

import (
	"fmt"
	"go/ast"
	"go/parser"
	"go/token"
	"math/rand"
	"regexp"
	"slices"
	"strings"
	"testing"
	"unicode/utf8"
	"unsafe"

	"pillarbox/api"
)

// shown is the beginning of what a test speaks of.
func shown(what any) string {
	return fmt.Sprintf("%.300q", what)
}

// brief is the beginning of a list of mailboxes, as name:id<parent.
func brief(l []api.Box) string {
	told := ""
	for _, b := range l[:min(len(l), 20)] {
		told += fmt.Sprintf(" %q:%d<%d", b.Name, b.Id, b.Parent)
	}
	return fmt.Sprintf("%d of%s", len(l), told)
}

// eachTurned does something with each text that is one byte away from s: put in, put in another's place, taken off.
func eachTurned(s string, do func(s string)) {
	for at := range len(s) + 1 {
		for c := range 256 {
			do(s[:at] + string([]byte{byte(c)}) + s[at:])
			if at < len(s) {
				do(s[:at] + string([]byte{byte(c)}) + s[at+1:])
			}
		}
		if at < len(s) {
			do(s[:at] + s[at+1:])
		}
	}
}

// eachRow does something with each text of up to that many of the pieces.
func eachRow(pieces []string, most int, do func(s string)) {
	var more func(s string, left int)
	more = func(s string, left int) {
		do(s)
		if left == 0 {
			return
		}
		for _, p := range pieces {
			more(s+p, left-1)
		}
	}
	more("", most)
}

// anyRow is a text of fewer than that many of the pieces.
func anyRow(r *rand.Rand, pieces []string, most int) string {
	s := ""
	for range r.Intn(most) {
		s += pieces[r.Intn(len(pieces))]
	}
	return s
}

// inside says whether the bytes of a stand in those of b.
func inside(a, b string) bool {
	from := uintptr(unsafe.Pointer(unsafe.StringData(a)))
	to := uintptr(unsafe.Pointer(unsafe.StringData(b)))
	return a != "" && b != "" && to <= from && from < to+uintptr(len(b))
}

// barred is what no name has in it.
var barred = regexp.MustCompile(`[\x00-\x1f\x7f/*%]`)

func wantedRight(name string) bool {
	return utf8.ValidString(name) && len(name) > 0 && len(name) < 65 && !barred.MatchString(name)
}

// account is what an oracle knows of a list: the first mailbox of each id, the path of each that has one, and to which
// ids each comes.
type account struct {
	first map[int]api.Box
	path  map[int]string
	over  map[int]map[int]bool
}

// known asks each mailbox for its Parent's path, again and again, as long as any more is known by that.
func known(l []api.Box) account {
	a := account{map[int]api.Box{}, map[int]string{}, map[int]map[int]bool{}}
	for _, b := range l {
		if _, ok := a.first[b.Id]; !ok {
			a.first[b.Id] = b
			a.over[b.Id] = map[int]bool{b.Parent: true}
			if b.Parent == 0 {
				a.path[b.Id] = b.Name
			}
		}
	}
	for more := true; more; {
		more = false
		for id, b := range a.first {
			if ahead, ok := a.path[b.Parent]; ok && b.Parent != 0 {
				if _, ok := a.path[id]; !ok {
					a.path[id] = ahead + "/" + b.Name
					more = true
				}
			}
			for top := range a.over[b.Parent] {
				if !a.over[id][top] {
					a.over[id][top] = true
					more = true
				}
			}
		}
	}
	return a
}

// find is what Find must tell.
func (a account) find(l []api.Box, path string) (int, bool) {
	if strings.EqualFold(path, "inbox") {
		path = "INBOX"
	}
	for _, b := range l {
		if path != "" && a.path[b.Id] == path {
			return b.Id, true
		}
	}
	return 0, false
}

// holdList holds Path, Find and Under of a list against what they must tell, for these ids and paths and those of l.
func holdList(t *testing.T, l []api.Box, ids []int, paths []string) {
	t.Helper()
	given := slices.Clone(l)
	a := known(l)
	ids = slices.Clone(ids)
	for _, b := range l {
		ids = append(ids, b.Id, b.Parent)
	}
	slices.Sort(ids)
	ids = slices.Compact(ids)
	for _, id := range ids {
		path := Path(l, id)
		if path != a.path[id] {
			t.Fatalf("Path of %d in %s is %s, want %s", id, brief(l), shown(path), shown(a.path[id]))
		}
		paths = append(paths, path)
		for _, top := range ids {
			if got, want := Under(l, id, top), id == top || a.over[id][top]; got != want {
				t.Fatalf("Under of %d and %d in %s is %v", id, top, brief(l), got)
			}
		}
	}
	for _, path := range paths {
		want, ok := a.find(l, path)
		if got, found := Find(l, path); got != want || found != ok {
			t.Fatalf("Find of %s in %s is %d, %v, want %d, %v", shown(path), brief(l), got, found, want, ok)
		}
	}
	if !slices.Equal(l, given) {
		t.Fatalf("%s was turned into %s", brief(given), brief(l))
	}
}

// latin is s with each byte as the code point of its number.
func latin(s string) string {
	var b strings.Builder
	for i := range len(s) {
		b.WriteRune(rune(s[i]))
	}
	return b.String()
}

// wantedMatch is what tells whether a pattern stands for a path, by the library's.
func wantedMatch(pattern string) func(path string) bool {
	wanted := regexp.QuoteMeta(latin(pattern))
	wanted = strings.ReplaceAll(wanted, `\*`, `(?s:.*)`)
	wanted = strings.ReplaceAll(wanted, `%`, `[^/]*`)
	re := regexp.MustCompile(`\A` + wanted + `\z`)
	return func(path string) bool { return re.MatchString(latin(path)) }
}

func holdMatch(t *testing.T, pattern string, paths ...string) {
	t.Helper()
	want := wantedMatch(pattern)
	for _, path := range paths {
		if got := Match(pattern, path); got != want(path) {
			t.Fatalf("Match(%s, %s) is %v", shown(pattern), shown(path), got)
		}
	}
}

// 16.1: what may be a name.
func TestRight(t *testing.T) {
	for _, c := range []struct {
		name string
		want bool
	}{
		{"a", true},
		{"INBOX", true},
		{"inbox", true},
		{" ", true},
		{" a  b ", true},
		{".", true},
		{"..", true},
		{"\\", true},
		{"\"'&,;:()[]{}<>|~^$#@!?=+-_`", true},
		{"0", true},
		{"~", true},
		{"\u0080", true}, // 127 alone is none, not those behind it
		{"\u009f", true},
		{"\u00a0", true},
		{"\u00e4 b", true},
		{"\u2028", true},
		{"\ufeff", true},
		{"\ufffd", true},
		{"\uffff", true},
		{"\U0001f4ec", true},
		{"\U0010ffff", true},
		{"\uff0f\uff0a\uff05", true}, // other signs than / * %
		{strings.Repeat("x", 63), true},
		{strings.Repeat("x", 64), true},
		{strings.Repeat("\u00e4", 32), true},
		{strings.Repeat("\U0001f4ec", 16), true},
		{"x" + strings.Repeat("\u20ac", 21), true},
		{"", false},
		{"/", false},
		{"*", false},
		{"%", false},
		{"a/b", false},
		{"/a", false},
		{"a/", false},
		{"a*b", false},
		{"a%", false},
		{"\x00", false},
		{"a\x00", false},
		{"a\tb", false},
		{"a\r\n", false},
		{"\x1f", false},
		{"\x7f", false},
		{"a\x7fb", false},
		{"\x80", false},
		{"\xff", false},
		{"a\xc3", false},
		{"\xc3(", false},
		{"\xa4", false},
		{"\xc0\xaf", false}, // `/` in more bytes than it needs
		{"\xc1\xbf", false},
		{"\xe0\x80\xaf", false},
		{"\xed\xa0\x80", false}, // a half of a pair
		{"\xf4\x90\x80\x80", false},
		{strings.Repeat("x", 65), false},
		{strings.Repeat("\u00e4", 32) + "x", false},
		{strings.Repeat("\u00e4", 33), false}, // bytes, not code points
		{strings.Repeat("\u00e4", 64), false},
		{strings.Repeat("x", 63) + "/", false},
		{strings.Repeat("x", 63) + "\xff", false},
		{strings.Repeat("x", 63) + "\u00e4", false},
		{strings.Repeat("x", 1<<20), false},
	} {
		if got := Right(c.name); got != c.want || wantedRight(c.name) != c.want {
			t.Errorf("Right(%s) is %v", shown(c.name), got)
		}
	}
}

// 16.1: names of each byte, each two, each code point, and each byte at each place of names of each length.
func TestRightEachByte(t *testing.T) {
	hold := func(name string) {
		if got := Right(name); got != wantedRight(name) {
			t.Fatalf("Right(%s) is %v", shown(name), got)
		}
	}
	for c := range 256 {
		for d := range 256 {
			hold(string([]byte{byte(c), byte(d)}))
		}
		hold(string([]byte{byte(c)}))
	}
	for r := range rune(utf8.MaxRune + 1) {
		hold("a" + string(r) + "b")
	}
	for n := range 200 {
		hold(strings.Repeat("a", n))
		hold(strings.Repeat("\u00e4", n))
	}
	for _, s := range []string{"a", "\u00e4b", "x\u20acx", "\U0001f4ec", strings.Repeat("a", 63), strings.Repeat("\u00e4", 32)} {
		eachTurned(s, hold)
	}
}

// family is a list with all that may befall Parents.
var family = []api.Box{
	{Id: 1, Name: "INBOX", Valid: 1, Next: 7, Mod: 3},
	{Id: 12, Name: "deep", Parent: 11},
	{Id: 2, Name: "a"},
	{Id: 11, Name: "c d", Parent: 10},
	{Id: 10, Name: "b", Parent: 2},
	{Id: 2, Name: "twice", Parent: 1},
	{Id: 20, Name: "self", Parent: 20},
	{Id: 21, Name: "x", Parent: 22},
	{Id: 22, Name: "y", Parent: 23},
	{Id: 23, Name: "z", Parent: 21},
	{Id: 24, Name: "by", Parent: 21},
	{Id: 30, Name: "lost", Parent: 99},
	{Id: 31, Name: "with", Parent: 30},
	{Id: 40, Name: "b", Parent: 2},
	{Id: 41, Name: "c d", Parent: 40},
	{Id: 42, Name: "kid", Parent: 1},
	{Id: 43, Name: "INBOX", Parent: 2},
	{Id: -5, Name: "below", Parent: -6},
	{Id: -6, Name: "none"},
	{Id: 50, Name: ""},
	{Id: 51, Name: "k", Parent: 50},
	{Id: 52, Name: "", Parent: 51},
	{Id: 60, Name: "a/b"},
	{Id: 61, Name: "p/q"},
	{Id: 62, Name: "p"},
	{Id: 63, Name: "q", Parent: 62},
	{Id: 70, Name: "two"},
	{Id: 71, Name: "two"},
	{Id: 72, Name: "of", Parent: 71},
	{Id: 73, Name: "\xff\x00"},
}

// 16.1: paths of mailboxes.
func TestPath(t *testing.T) {
	for _, c := range []struct {
		id   int
		want string
	}{
		{1, "INBOX"},
		{2, "a"}, // of several alike the first
		{10, "a/b"},
		{11, "a/b/c d"},
		{12, "a/b/c d/deep"}, // its Parents stand behind it
		{42, "INBOX/kid"},
		{43, "a/INBOX"},
		{40, "a/b"},
		{-6, "none"},
		{-5, "none/below"},
		{50, ""},
		{51, "/k"},
		{52, "/k/"},
		{60, "a/b"},
		{63, "p/q"},
		{72, "two/of"},
		{73, "\xff\x00"},
		{0, ""},
		{3, ""},
		{99, ""}, // a Parent that is none
		{-1, ""},
		{1 << 62, ""},
		{20, ""},
		{21, ""}, // Parents that go round
		{22, ""},
		{23, ""},
		{24, ""},
		{30, ""}, // those that lead to none
		{31, ""},
	} {
		if got := Path(family, c.id); got != c.want {
			t.Errorf("Path of %d is %s, want %s", c.id, shown(got), shown(c.want))
		}
		if got := Path(nil, c.id); got != "" {
			t.Errorf("Path of %d in no list is %s", c.id, shown(got))
		}
	}
}

// 16.1: mailboxes found by their paths.
func TestFind(t *testing.T) {
	for _, c := range []struct {
		path string
		want int // 0: none
	}{
		{"INBOX", 1},
		{"inbox", 1},
		{"Inbox", 1},
		{"iNbOx", 1},
		{"a", 2},
		{"a/b", 10}, // the first of those alike in l, not by Id, and by names that have a `/`, too
		{"a/b/c d", 11},
		{"a/b/c d/deep", 12},
		{"INBOX/kid", 42},
		{"a/INBOX", 43},
		{"none", -6},
		{"none/below", -5},
		{"/k", 51},
		{"/k/", 52},
		{"p/q", 61},
		{"p", 62},
		{"two", 70},
		{"two/of", 72},
		{"\xff\x00", 73},
		{"", 0}, // neither being empty
		{"/", 0},
		{"A", 0},
		{"A/b", 0},
		{"a/B", 0},
		{"inbox/kid", 0}, // the path's Fold is another one
		{"Inbox/kid", 0},
		{"a/inbox", 0},
		{"INBOX/", 0},
		{"/INBOX", 0},
		{"INBOX ", 0},
		{" INBOX", 0},
		{"\u0130nbox", 0}, // whose small letter is i in Unicode
		{"INBO", 0},
		{"INBOXX", 0},
		{"a/", 0},
		{"/a", 0},
		{"a//b", 0},
		{"a/b/", 0},
		{"a/b/c", 0},
		{"a/b/c d/deep/", 0},
		{"a/b/c d/deeper", 0},
		{"a/c d", 0},
		{"ab", 0},
		{"b", 0}, // a name is no path
		{"deep", 0},
		{"b/c d", 0},
		{"twice", 0}, // of several alike the first
		{"INBOX/twice", 0},
		{"self", 0},
		{"self/self", 0},
		{"x", 0},
		{"z/y/x", 0},
		{"x/by", 0},
		{"lost", 0},
		{"lost/with", 0},
		{"/lost", 0},
		{"k", 0},
		{"//k", 0},
		{"/k//", 0},
		{"below", 0},
		{"\xff", 0},
		{"\xff\x00\x00", 0},
		{"*", 0},
		{"%", 0},
	} {
		if got, ok := Find(family, c.path); got != c.want || ok != (c.want != 0) {
			t.Errorf("Find of %s is %d, %v, want %d", shown(c.path), got, ok, c.want)
		}
		if got, ok := Find(nil, c.path); got != 0 || ok {
			t.Errorf("Find of %s in no list is %d, %v", shown(c.path), got, ok)
		}
	}
}

// 16.1: a path whose Fold is inbox finds what has the path INBOX, and nothing else.
func TestFindInbox(t *testing.T) {
	sizes := []string{"inbox", "INBOX", "Inbox", "inboX", "iNBOx"}
	for _, c := range []struct {
		l    []api.Box
		want int // 0: none
	}{
		{[]api.Box{{Id: 1, Name: "INBOX"}}, 1},
		{[]api.Box{{Id: 7, Name: "INBOX"}}, 7},
		{[]api.Box{{Id: 1, Name: "a"}, {Id: 2, Name: "INBOX"}}, 2},
		{[]api.Box{{Id: 2, Name: "inbox"}, {Id: 1, Name: "INBOX"}}, 1},
		{[]api.Box{{Id: 3, Name: "INBOX", Parent: 2}, {Id: 2, Name: "Inbox"}, {Id: 1, Name: "INBOX"}}, 1},
		{[]api.Box{{Id: 4, Name: "INBOX"}, {Id: 1, Name: "INBOX"}}, 4},
		{[]api.Box{{Id: 2, Name: "inbox"}}, 0},
		{[]api.Box{{Id: 1, Name: "INBOX", Parent: 1}}, 0},
		{[]api.Box{{Id: 1, Name: "INBOX", Parent: 2}, {Id: 2, Name: "a"}}, 0},
		{[]api.Box{{Id: 1, Name: "INBOX", Parent: 9}}, 0},
		{nil, 0},
	} {
		for _, path := range sizes {
			if got, ok := Find(c.l, path); got != c.want || ok != (c.want != 0) {
				t.Errorf("Find of %s in %s is %d, %v, want %d", path, brief(c.l), got, ok, c.want)
			}
		}
		holdList(t, c.l, []int{0, 1, 2}, sizes)
	}
}

// 16.1: a mailbox of the Id 0 is one, but nobody's Parent.
func TestIdOfNone(t *testing.T) {
	l := []api.Box{{Id: 3, Name: "a"}, {Id: 0, Name: "nil"}, {Id: 4, Name: "b", Parent: 3}}
	if got := Path(l, 0); got != "nil" {
		t.Errorf("its Path is %s", shown(got))
	}
	if got := Path(l, 4); got != "a/b" {
		t.Errorf("another one's Path is %s", shown(got))
	}
	if got, ok := Find(l, "nil"); got != 0 || !ok {
		t.Errorf("its path finds %d, %v", got, ok)
	}
	for _, path := range []string{"nil/a", "nil/nil", "nil/a/b", "nil/"} {
		if got, ok := Find(l, path); got != 0 || ok {
			t.Errorf("%s finds %d, %v", shown(path), got, ok)
		}
	}
	holdList(t, l, []int{0, 1}, []string{"nil/a", "nil/nil", "nil/a/b"})
}

// 16.1: who stands under whom.
func TestUnder(t *testing.T) {
	for _, c := range []struct {
		id, top int
		want    bool
	}{
		{1, 1, true},
		{12, 12, true},
		{12, 11, true},
		{12, 10, true},
		{12, 2, true},
		{12, 0, true}, // where the highest one's Parent leads
		{2, 0, true},
		{12, 1, false}, // the first of those of Id 2 has no Parent
		{2, 1, false},
		{2, 12, false},
		{10, 11, false},
		{40, 10, false}, // of one path, but another one
		{42, 1, true},
		{1, 42, false},
		{0, 0, true},
		{0, 1, false},
		{1, 0, true},
		{3, 3, true}, // is it top?
		{3, 0, false},
		{99, 99, true},
		{30, 99, true},
		{31, 99, true},
		{99, 30, false},
		{31, 30, true},
		{30, 31, false},
		{30, 0, false},
		{31, 1, false},
		{20, 20, true},
		{20, 0, false},
		{21, 22, true},
		{21, 23, true},
		{21, 21, true},
		{23, 22, true},
		{22, 21, true},
		{24, 23, true},
		{24, 24, true},
		{21, 24, false},
		{24, 0, false},
		{24, 1, false},
		{-5, -6, true},
		{-5, 0, true},
		{-6, -5, false},
		{-1, -1, true},
		{-1, 1, false},
		{1 << 62, 1 << 62, true},
		{1 << 62, 1, false},
	} {
		if got := Under(family, c.id, c.top); got != c.want {
			t.Errorf("Under of %d and %d is %v", c.id, c.top, got)
		}
		if got := Under(nil, c.id, c.top); got != (c.id == c.top) {
			t.Errorf("Under of %d and %d in no list is %v", c.id, c.top, got)
		}
	}
}

// 16.1: as many steps as l has are enough, and needed.
func TestUnderSteps(t *testing.T) {
	for n := range 20 {
		var l []api.Box
		for i := range n {
			l = append(l, api.Box{Id: i + 1, Name: "a", Parent: i + 2})
		}
		for id := range n + 1 {
			if !Under(l, id+1, n+1) {
				t.Errorf("of %d not all steps are gone from %d", n, id+1)
			}
			if Under(l, id+1, n+2) || Under(l, id+1, id) {
				t.Errorf("of %d too many steps are gone from %d", n, id+1)
			}
		}
		holdList(t, l, nil, nil)
	}
}

// 16.1: the list of all that may befall, and what is one mailbox away from it.
func TestFamily(t *testing.T) {
	paths := []string{"", "/", "a", "a/b", "inbox", "INBOX/kid", "z/y/x", "x/y/z/x", "lost", "twice", "self/self", "two/of"}
	ids := []int{-7, 0, 3, 98}
	holdList(t, family, ids, paths)
	turned := slices.Clone(family)
	slices.Reverse(turned)
	holdList(t, turned, ids, paths)
	for i := range family {
		holdList(t, slices.Concat(family[:i], family[i+1:]), ids, paths)
		first := append([]api.Box{family[i]}, family...)
		first[0].Parent = 12
		holdList(t, first, ids, paths)
	}
}

// 16.1: each way in which up to three mailboxes of few ids stand under one another.
func TestEachSmallList(t *testing.T) {
	paths := []string{"a", "b", "a/b", "b/a", "a/b/a", "b/b", "b/a/b/a", "a/b/a/b/a"}
	names := []string{"a", "b", "a"}
	var more func(l []api.Box, left int)
	more = func(l []api.Box, left int) {
		holdList(t, l, []int{0, 1, 2, 3, 4}, paths)
		if left == 0 {
			return
		}
		for id := range 4 {
			for parent := range 5 {
				b := api.Box{Id: id, Name: names[len(l)], Parent: parent}
				more(append(slices.Clone(l), b), left-1)
			}
		}
	}
	more(nil, 3)
}

// 16.1: any lists.
func TestAnyLists(t *testing.T) {
	r := rand.New(rand.NewSource(16))
	names := []string{"a", "b", "INBOX", "inbox", "ab", "\u00e4", "", "a/b", "/"}
	for range 20000 {
		var l []api.Box
		ids := 1 + r.Intn(12)
		right := r.Intn(2) == 0
		for i := range r.Intn(12) {
			b := api.Box{Id: 1 + r.Intn(ids), Parent: r.Intn(ids + 1), Name: names[r.Intn(len(names))]}
			if right {
				b.Id, b.Parent = i+1, r.Intn(i+1)
			}
			l = append(l, b)
		}
		r.Shuffle(len(l), func(i, j int) { l[i], l[j] = l[j], l[i] })
		var paths []string
		for range 4 {
			paths = append(paths, anyRow(r, append(names, "/"), 6))
		}
		holdList(t, l, []int{0, ids + 1, -1}, paths)
	}
}

// chain is n mailboxes, each under the one ahead of it, told from the lowest up.
func chain(n int, name string) []api.Box {
	var l []api.Box
	for i := range n {
		l = append(l, api.Box{Id: i + 1, Name: name, Parent: i})
	}
	slices.Reverse(l)
	return l
}

// 16.1: mailboxes as deep as what is handed in may be nested, rings of as many, and as many rings.
func TestGreatLists(t *testing.T) {
	const n = 1<<16 - 1
	l := chain(n, "a")
	all := strings.Repeat("a/", n-1) + "a"
	for i := range 50 {
		l = append(l, api.Box{Id: n + 1 + i, Name: "a", Parent: n - 1})
	}
	if got := Path(l, n); got != all {
		t.Errorf("the lowest one's Path has %d bytes, want %d", len(got), len(all))
	}
	for path, want := range map[string]int{all: n, all[2:]: n - 1, "a": 1, all + "/a": n + 1, all + "/": n + 1, all[1:]: n + 1} {
		if got, ok := Find(l, path); ok && got != want || ok != (want <= n) {
			t.Errorf("a path of %d bytes finds %d, %v", len(path), got, ok)
		}
	}
	if !Under(l, n, 1) || !Under(l, n, 0) || Under(l, n, n+1) || Under(l, 1, n) || !Under(l, n+50, 1) {
		t.Errorf("who stands under whom in a long list is amiss")
	}
	l[n-1].Parent = n
	if Path(l, n) != "" || Path(l, 1) != "" || Path(l, n+50) != "" || !Under(l, 1, n) || Under(l, 1, 0) || Under(l, 1, n+1) {
		t.Errorf("a great ring is amiss")
	}
	if got, ok := Find(l, all); ok {
		t.Errorf("in a great ring there is %d", got)
	}
	var rings []api.Box
	for i := range n {
		rings = append(rings, api.Box{Id: i + 1, Name: "a", Parent: (i ^ 1) + 1})
	}
	rings = append(rings, api.Box{Id: n + 9, Name: "a"})
	if got, ok := Find(rings, "a"); got != n+9 || !ok {
		t.Errorf("among many rings there is %d, %v", got, ok)
	}
	if Path(rings, 1) != "" || Under(rings, 1, 3) || !Under(rings, 2, 1) {
		t.Errorf("many rings are amiss")
	}
}

// 16.1: many mailboxes beside one another, and many of one id.
func TestWideLists(t *testing.T) {
	const n = 1 << 18
	l := []api.Box{{Id: 1, Name: "INBOX"}}
	for i := range n {
		l = append(l, api.Box{Id: i + 2, Name: "k" + fmt.Sprint(i), Parent: i % 2})
	}
	if got, ok := Find(l, "INBOX/k"+fmt.Sprint(n-1)); got != n+1 || !ok {
		t.Errorf("the last one is %d, %v", got, ok)
	}
	if got, ok := Find(l, "k"+fmt.Sprint(n-1)); ok {
		t.Errorf("under none there is %d", got)
	}
	if got := Path(l, n+1); got != "INBOX/k"+fmt.Sprint(n-1) {
		t.Errorf("the last one's Path is %s", got)
	}
	for i := range l {
		l[i].Id = 7
	}
	if got := Path(l, 7); got != "INBOX" {
		t.Errorf("of many alike the Path is %s", got)
	}
	if got, ok := Find(l, "k0"); ok {
		t.Errorf("of many alike there is %d", got)
	}
}

// 16.1: Path goes there and Find back.
func TestThereAndBack(t *testing.T) {
	r := rand.New(rand.NewSource(61))
	for range 2000 {
		l := []api.Box{{Id: 1, Name: "INBOX"}}
		for i := range r.Intn(30) {
			l = append(l, api.Box{Id: i + 2, Name: "n" + fmt.Sprint(i), Parent: r.Intn(i + 2)})
		}
		for _, b := range l {
			path := Path(l, b.Id)
			if got, ok := Find(l, path); got != b.Id || !ok {
				t.Fatalf("%s of %s finds %d, %v, want %d", shown(path), brief(l), got, ok, b.Id)
			}
			if strings.Count(path, "/") > 0 != (b.Parent != 0) || !Under(l, b.Id, b.Parent) {
				t.Fatalf("%s of %s is %d", shown(path), brief(l), b.Id)
			}
		}
	}
}

// 16.2: which patterns stand for which paths.
func TestMatch(t *testing.T) {
	for _, c := range []struct {
		pattern, path string
		want          bool
	}{
		{"a%", "a/b", false}, // the chapter's example
		{"", "", true},
		{"", "a", false},
		{"", "/", false},
		{"a", "", false},
		{"a", "a", true},
		{"a", "A", false},
		{"a", "aa", false},
		{"aa", "a", false},
		{"inbox", "INBOX", false},
		{"*", "", true},
		{"*", "a", true},
		{"*", "/", true},
		{"*", "a/b/c", true},
		{"*", "*", true},
		{"*", "%", true},
		{"*", "\x00\r\n\xff", true},
		{"%", "", true},
		{"%", "a", true},
		{"%", "a b\r\n\x00\xff", true},
		{"%", "*", true},
		{"%", "/", false},
		{"%", "a/", false},
		{"%", "/a", false},
		{"%", "a/b", false},
		{"%/", "a/", true},
		{"/%", "/", true},
		{"%/%", "/", true},
		{"%/%", "a/b", true},
		{"%/%", "a", false},
		{"%/%", "a/b/c", false},
		{"%/%", "//", false},
		{"%%", "a/b", false},
		{"%%", "", true},
		{"%%%", "ab", true},
		{"**", "", true},
		{"**", "a/b", true},
		{"*%", "a/b", true},
		{"%*", "a/b", true},
		{"*%*", "", true},
		{"*/*", "a", false},
		{"*/*", "/", true},
		{"*/%", "a/b/c", true},
		{"%/*", "a/b/c", true},
		{"%/*", "/a", true},
		{"a*", "a", true},
		{"a*", "a/b", true},
		{"a*", "b", false},
		{"*a", "a", true},
		{"*a", "b/a", true},
		{"*a", "ab", false},
		{"%a", "b/a", false},
		{"a%", "a", true},
		{"a%", "ab", true},
		{"a%b", "ab", true},
		{"a%b", "axb", true},
		{"a%b", "a/b", false},
		{"a*b", "a/b", true},
		{"a*b", "a/c", false},
		{"a*b", "abab", true},
		{"a%b", "abab", true},
		{"*ab", "aab", true},
		{"%ab", "aab", true},
		{"*aab", "aaab", true},
		{"*ab*ab", "abab", true},
		{"*ab*ab", "aab", false},
		{"%ab%ab", "ab/ab", false},
		{"*ab%ab", "ab/abab", true}, // the first place of `ab` is of no use
		{"*ab%ab", "abab/ab", false},
		{"*a%c", "ab/ac", true},
		{"*a%c", "a/ab/c", false},
		{"*a/%b", "a/x/a/xb", true},
		{"*a%/b", "a/c/ax/b", true},
		{"*/%a", "a/b/a", true},
		{"*/%a", "a", false},
		{"*%/a%", "x/y/ab", true},
		{"*%/a%", "x/y/ab/", false},
		{"%a%/%a%", "bab/bab", true},
		{"%a%/%a%", "bab/bb", false},
		{"a%b*c%d", "axb/cc/cxd", true},
		{"a%b*c%d", "axb/cc/c/d", false},
		{"a%b*c%d", "a/b/ccd", false},
		{"*x%", "xa/b", false},
		{"*x%", "xa/xb", true},
		{"*x%*", "xa/b", true},
		{"\u00e4", "\u00e4", true},
		{"\u00e4%", "\u00e4b", true},
		{"\u00e4", "\u00c4", false},
		{"\xc3*", "\u00e4", true}, // bytes, not code points
		{"\xc3%", "\u00e4", true},
		{"%\xa4", "\u00e4", true},
		{"?", "a", false},
		{".", "a", false},
		{"[a]", "a", false},
		{"[a]", "[a]", true},
		{`\*`, `\ab`, true},
		{`\*`, "*", false},
		{"a/*", "a", false},
		{"a/*", "a/", true},
		{" *", "a", false},
		{"*\x00", "a\x00", true},
		{"*\x00", "a", false},
		{"a*\x00", "a", false},
	} {
		if got := Match(c.pattern, c.path); got != c.want || wantedMatch(c.pattern)(c.path) != c.want {
			t.Errorf("Match(%s, %s) is %v", shown(c.pattern), shown(c.path), got)
		}
	}
}

// 16.2: each short pattern, and each short path.
func TestEachShortMatch(t *testing.T) {
	var paths []string
	eachRow([]string{"a", "b", "/"}, 6, func(s string) { paths = append(paths, s) })
	eachRow([]string{"*", "%", "a", "b", "/"}, 5, func(s string) { holdMatch(t, s, paths...) })
}

// 16.2: each byte for itself, for the two signs, and behind them.
func TestMatchEachByte(t *testing.T) {
	for c := range 256 {
		s := string([]byte{byte(c)})
		for d := range 256 {
			holdMatch(t, s, string([]byte{byte(d)}), string([]byte{byte(c), byte(d)}))
		}
		for _, pattern := range []string{"*", "%", "a%b", "a*b", "%/%", "*" + s, "%" + s, s + "%", s + "*"} {
			holdMatch(t, pattern, s, "a"+s+"b", s+"/"+s, "/"+s, s+s, s+"a", "a"+s, "")
		}
	}
	for _, s := range []string{"a*b%c", "%a/*b", "a/b/c"} {
		eachTurned(s, func(pattern string) {
			holdMatch(t, pattern, "abc", "a/b/c", "aab/c", "xa/b", "a*b%c", "%a/*b", pattern)
		})
	}
}

// 16.2: any patterns and paths of few signs, so that much of them is alike.
func TestAnyMatch(t *testing.T) {
	r := rand.New(rand.NewSource(162))
	for range 60000 {
		pattern := anyRow(r, []string{"*", "%", "a", "ab", "b", "/", "a/", "*a", "%a", "%b"}, 12)
		var paths []string
		for range 10 {
			paths = append(paths, anyRow(r, []string{"a", "a", "b", "ab", "/"}, 24))
		}
		// What a pattern stands for is seldom met by chance.
		filled := ""
		for _, c := range pattern {
			switch c {
			case '*':
				filled += anyRow(r, []string{"a", "b", "/", "ab/"}, 5)
			case '%':
				filled += anyRow(r, []string{"a", "b", "ab"}, 4)
			default:
				filled += string(c)
			}
		}
		if !Match(pattern, filled) {
			t.Fatalf("%s does not stand for %s", shown(pattern), shown(filled))
		}
		holdMatch(t, pattern, append(paths, filled+"/", "/"+filled, filled+"a", strings.ToUpper(filled))...)
	}
}

// 16.2: great patterns and paths, those too for which many ways would have to be gone one by one.
func TestGreatMatch(t *testing.T) {
	r := strings.Repeat
	for i, c := range []struct {
		pattern, path string
		want          bool
	}{
		{r("a", 1<<20), r("a", 1<<20), true},
		{r("a", 1<<20) + "b", r("a", 1<<20), false},
		{r("*", 1<<20), r("a/", 1<<20), true},
		{r("%", 1<<20), r("a", 1<<20), true},
		{r("%", 1<<20), r("a", 1<<20) + "/", false},
		{r("%*", 1<<20), r("a/", 1<<20), true},
		{"*b", r("a", 1<<20), false},
		{"*", r("a/", 1<<22), true},
		{"%", r("a", 1<<22), true},
		{r("*a", 1<<18), r("a", 1<<18), true},
		{r("*a", 1<<18) + "b", r("a", 1<<19), false},
		{r("*a", 1<<18), r("a", 1<<18-1), false},
		{r("%a", 1<<18), r("a", 1<<18), true},
		{r("%a", 1<<18) + "b", r("a", 1<<19), false},
		{r("*a", 1<<18), r("b", 1<<18), false},
		{r("*%a", 1<<18) + "b", r("a", 1<<18), false},
		{r("%a", 40) + "/" + r("%a", 40) + "b", r("a", 1<<12) + "/" + r("a", 1<<12), false},
		{"*a%b", r("a", 1<<20) + "/", false},
		{"*a%b", r("a", 1<<20) + "/a", false},
		{"*a%b", r("a", 1<<20) + "/ab", true},
		{"*a%a%/b", r("a", 1<<20) + "/" + r("a", 1<<20), false},
		{"*" + r("a%", 200) + "b", r(r("a", 1<<10)+"/", 1<<8), false},
		{"*" + r("a%", 200) + "b", r(r("a", 1<<10)+"/", 1<<8) + r("a", 200) + "b", true},
		{"*" + r("%/", 200) + "b", r("a/", 1<<12), false},
		{"*" + r("%/", 200) + "b", r("a/", 1<<12) + "b", true},
		{r("*/%", 1<<10) + "b", r("a/", 1<<16), false},
		{"*" + r("a", 1<<10) + "b", r("a", 1<<16), false},
		{"*" + r("a", 1<<10) + "b", r("a", 1<<16) + "b", true},
		{"*" + r("a%", 1<<6) + r("a", 1<<8) + "b", r(r("a", 1<<9)+"/", 1<<7), false},
	} {
		if got := Match(c.pattern, c.path); got != c.want {
			t.Errorf("%d: Match(%.20s.., %.20s..) is %v", i, c.pattern, c.path, got)
		}
	}
}

// R3: what is handed in is not turned, and what is told is new memory.
func TestNewMemory(t *testing.T) {
	name := strings.Repeat("name", 4)
	l := []api.Box{{Id: 1, Name: name}, {Id: 2, Name: name[2:], Parent: 1}}
	given := slices.Clone(l)
	one := Path(l, 1)
	if inside(one, name) || unsafe.StringData(one) == unsafe.StringData(Path(l, 1)) {
		t.Errorf("a Path shares its memory")
	}
	two := Path(l, 2)
	if one != name || two != name+"/"+name[2:] || inside(two, name) {
		t.Errorf("the Paths are %s and %s", one, two)
	}
	if got, ok := Find(l, two); got != 2 || !ok || !Under(l, 2, 1) || !slices.Equal(l, given) {
		t.Errorf("%s is %s behind Find and Under", brief(given), brief(l))
	}
}

// R1: the same calls tell the same.
func TestSameAgain(t *testing.T) {
	var l []api.Box
	for i := range 100 {
		l = append(l, api.Box{Id: 100 - i, Name: "a"}, api.Box{Id: 200 - i, Name: "b", Parent: 100 - i})
	}
	for range 200 {
		if got, ok := Find(l, "a/b"); got != 200 || !ok {
			t.Fatalf("a/b is %d, %v", got, ok)
		}
		if got, ok := Find(l, "a"); got != 100 || !ok {
			t.Fatalf("a is %d, %v", got, ok)
		}
	}
}

// The chapter's way: one labelled loop goes up Parents, and nothing else steps from one to the next.
func TestWay(t *testing.T) {
	file, err := parser.ParseFile(token.NewFileSet(), "tree.go", nil, 0)
	if err != nil {
		t.Fatal(err)
	}
	labelled, left, steps, others := 0, 0, 0, 0
	stepsIn := func(n ast.Node) int {
		count := 0
		ast.Inspect(n, func(n ast.Node) bool {
			if set, ok := n.(*ast.AssignStmt); ok && len(set.Rhs) == 1 && set.Tok == token.ASSIGN {
				if s, ok := set.Rhs[0].(*ast.SelectorExpr); ok && s.Sel.Name == "Parent" {
					count++
				}
			}
			return true
		})
		return count
	}
	ast.Inspect(file, func(n ast.Node) bool {
		l, ok := n.(*ast.LabeledStmt)
		if !ok {
			return true
		}
		switch l.Stmt.(type) {
		case *ast.ForStmt, *ast.RangeStmt:
			labelled++
		default:
			others++
		}
		steps += stepsIn(l)
		ast.Inspect(l, func(n ast.Node) bool {
			if b, ok := n.(*ast.BranchStmt); ok && b.Label != nil && b.Label.Name == l.Label.Name && b.Tok != token.GOTO {
				left++
			}
			return true
		})
		return true
	})
	if labelled != 1 || left < 1 || steps != 1 || others != 0 || stepsIn(file) != steps {
		t.Errorf("%d labelled loops are left at %d places, with %d steps of %d", labelled, left, steps, stepsIn(file))
	}
}
