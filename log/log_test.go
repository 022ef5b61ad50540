package log

import (
	"cmp"
	"fmt"
	"go/ast"
	"go/parser"
	"go/token"
	"math"
	"math/rand"
	"slices"
	"strings"
	"testing"

	"pillarbox/api"
)

// brief is the beginning of what a test speaks of.
func brief(what any) string {
	return fmt.Sprintf("%.400s", fmt.Sprint(what))
}

// mods is Entries of those Mods, told apart by their Ids.
func mods(l ...int) []api.Entry {
	var told []api.Entry
	for i, mod := range l {
		told = append(told, api.Entry{Mod: mod, Kind: api.LogMail, Id: i + 1, How: api.Turned})
	}
	return told
}

// fell is Entries of emails as a text tells them: groups of one Mod between blanks, the first of Mod 1: an Id of one
// digit and M, T or G each; a `.` is an Entry of a mailbox.
func fell(s string) []api.Entry {
	var told []api.Entry
	for i, group := range strings.Fields(s) {
		for at := 0; at < len(group); at++ {
			if group[at] == '.' {
				told = append(told, api.Entry{Mod: i + 1, Kind: api.LogBox, Id: 1, How: api.Turned})
				continue
			}
			how := strings.IndexByte("MTG", group[at+1]) + api.Made
			told = append(told, api.Entry{Mod: i + 1, Kind: api.LogMail, Id: int(group[at] - '0'), How: how})
			at++
		}
	}
	return told
}

// logOf is a log of that many Entries at most that was given these.
func logOf(t *testing.T, most int, adds ...[]api.Entry) *Log {
	t.Helper()
	l, err := New(most)
	if l == nil || err != api.OK {
		t.Fatalf("New(%d) is %v, %d", most, l, err)
	}
	for _, e := range adds {
		l.Add(e)
	}
	return l
}

// history is an oracle: it forgets nothing, and cuts when it is asked.
type history struct {
	most int
	ever []api.Entry
}

func historyOf(most int, adds ...[]api.Entry) history {
	h := history{most: most}
	for _, e := range adds {
		ever := slices.Concat(h.ever, e)
		for !slices.IsSortedFunc(ever, byMod) {
			ever = ever[:len(ever)-1]
		}
		h.ever = ever
	}
	return h
}

func byMod(a, b api.Entry) int {
	return cmp.Compare(a.Mod, b.Mod)
}

func (h history) cut() int {
	return max(0, len(h.ever)-h.most)
}

func (h history) all() []api.Entry {
	return h.ever[h.cut():]
}

func (h history) floor() int {
	gone := h.ever[:h.cut()]
	if len(gone) == 0 {
		return 0
	}
	return slices.MaxFunc(gone, byMod).Mod
}

// listed is what the lists have of Entries: by the row of letters of what befell each id.
func listed(l []api.Entry) api.Changes {
	var ids []int
	rows := map[int]string{}
	for _, e := range l {
		if rows[e.Id] == "" {
			ids = append(ids, e.Id)
		}
		switch e.How {
		case api.Made:
			rows[e.Id] += "M"
		case api.Gone:
			rows[e.Id] += "G"
		default:
			rows[e.Id] += "T"
		}
	}
	var c api.Changes
	for _, id := range ids {
		made, gone := strings.HasPrefix(rows[id], "M"), strings.HasSuffix(rows[id], "G")
		if made && !gone {
			c.Made = append(c.Made, id)
		}
		if !made && gone {
			c.Gone = append(c.Gone, id)
		}
		if !made && !gone {
			c.Turned = append(c.Turned, id)
		}
	}
	return c
}

func size(c api.Changes) int {
	return len(c.Made) + len(c.Turned) + len(c.Gone)
}

// since is what Since must tell: it tries each Mod as the last one that is taken.
func (h history) since(kind, from, clock, most int) (api.Changes, api.Errno) {
	if from < h.floor() || from > clock {
		return api.Changes{}, api.ErrFloor
	}
	var there []api.Entry
	for _, e := range h.all() {
		if e.Kind == kind && from < e.Mod && e.Mod <= clock {
			there = append(there, e)
		}
	}
	told, taken := api.Changes{}, 0
	for end := 1; end <= len(there); end++ {
		if end < len(there) && there[end].Mod == there[end-1].Mod {
			continue
		}
		c := listed(there[:end])
		if most > 0 && size(c) > most {
			break
		}
		told, taken = c, end
	}
	switch {
	case taken == len(there):
		told.State = clock
	case taken == 0:
		return api.Changes{}, api.ErrFloor
	default:
		told.State, told.More = there[taken-1].Mod, true
	}
	return told, api.OK
}

func same(a, b api.Changes) bool {
	return slices.Equal(a.Made, b.Made) && slices.Equal(a.Turned, b.Turned) && slices.Equal(a.Gone, b.Gone) &&
		a.State == b.State && a.More == b.More
}

// holdKept holds All and Floor against what they must tell.
func holdKept(t *testing.T, most int, adds ...[]api.Entry) {
	t.Helper()
	l, h := logOf(t, most, adds...), historyOf(most, adds...)
	if all, floor := l.All(), l.Floor(); !slices.Equal(all, h.all()) || floor != h.floor() {
		t.Fatalf("of %d at most, behind %s: %s, Floor %d, want %s, %d", most, brief(adds), brief(all), floor, brief(h.all()), h.floor())
	}
}

// holdSince holds Since of each of these numbers against what it must tell.
func holdSince(t *testing.T, room int, e []api.Entry, kinds, states, mosts []int) {
	t.Helper()
	l, h := logOf(t, room, e), historyOf(room, e)
	for _, kind := range kinds {
		for _, from := range states {
			for _, clock := range states {
				for _, most := range mosts {
					want, errWant := h.since(kind, from, clock, most)
					got, err := l.Since(kind, from, clock, most)
					if !same(got, want) || err != errWant {
						t.Fatalf("Since(%d, %d, %d, %d) of %s is %v, %d, want %v, %d", kind, from, clock, most, brief(h.all()), got, err, want, errWant)
					}
				}
			}
		}
	}
}

// 17.1: New, and what is wrong.
func TestNew(t *testing.T) {
	for _, most := range []int{0, -1, -2, math.MinInt32, math.MinInt} {
		if l, err := New(most); l != nil || err != api.ErrArg {
			t.Errorf("New(%d) is %v, %d", most, l, err)
		}
	}
	for _, most := range []int{1, 2, 1 << 16, math.MaxInt32, math.MaxInt} {
		l := logOf(t, most)
		if len(l.All()) != 0 || l.Floor() != 0 {
			t.Errorf("New(%d) has %v, Floor %d", most, l.All(), l.Floor())
		}
		l.Add(mods(3))
		if !slices.Equal(l.All(), mods(3)) || l.Floor() != 0 {
			t.Errorf("New(%d) has %v, Floor %d behind an Entry", most, l.All(), l.Floor())
		}
	}
}

// 17.1: Add, All, Floor: ordinary ones, Mods that fall, and the first that go.
func TestAdd(t *testing.T) {
	for i, c := range []struct {
		most  int
		adds  [][]int
		want  []int
		floor int
	}{
		{3, [][]int{nil}, nil, 0},
		{3, [][]int{{1, 2, 3}}, []int{1, 2, 3}, 0},
		{3, [][]int{{1}, {2}, {3}}, []int{1, 2, 3}, 0},
		{3, [][]int{{1, 2, 3, 4}}, []int{2, 3, 4}, 1},
		{3, [][]int{{1, 2, 3}, {4, 5}}, []int{3, 4, 5}, 2},
		{3, [][]int{{1, 2, 3, 4, 5, 6, 7, 8}}, []int{6, 7, 8}, 5},
		{3, [][]int{{2, 2, 2, 2}}, []int{2, 2, 2}, 2},
		{3, [][]int{{2, 2, 2, 2, 3}}, []int{2, 2, 3}, 2},
		{1, [][]int{{1}, {2}, {3}}, []int{3}, 2},
		{1, [][]int{{1}, {2}, {1}, {3}}, []int{3}, 2},
		{9, [][]int{{1, 3, 2, 4, 5}}, []int{1, 3}, 0},
		{9, [][]int{{1, 3}, {2, 4, 5}}, []int{1, 3}, 0},
		{9, [][]int{{1, 3}, {2, 4, 5}, {3, 4}}, []int{1, 3, 3, 4}, 0},
		{9, [][]int{{5, 4, 6}, {4}, {}, {5}}, []int{5, 5}, 0},
		{2, [][]int{{1, 2, 3, 2, 9}}, []int{2, 3}, 1},
		{9, [][]int{{0}, {-1}, {0}}, []int{0, 0}, 0},
		{9, [][]int{{-5, -3, -4}}, []int{-5, -3}, 0},
		{1, [][]int{{-5, -3}}, []int{-3}, -5},
		{1, [][]int{{-5, -3, -3, 0, 2}}, []int{2}, 0},
		{2, [][]int{{math.MinInt, math.MaxInt, math.MinInt}}, []int{math.MinInt, math.MaxInt}, 0},
		{1, [][]int{{math.MinInt, math.MaxInt, math.MaxInt}}, []int{math.MaxInt}, math.MaxInt},
	} {
		l := logOf(t, c.most)
		var adds [][]api.Entry
		for _, add := range c.adds {
			adds = append(adds, mods(add...))
			l.Add(adds[len(adds)-1])
		}
		var got []int
		for _, e := range l.All() {
			got = append(got, e.Mod)
		}
		if !slices.Equal(got, c.want) || l.Floor() != c.floor {
			t.Errorf("%d: %v, Floor %d, want %v, %d", i, got, l.Floor(), c.want, c.floor)
		}
		holdKept(t, c.most, adds...)
	}
}

// 17.1: Entries stand as they were given, whatever they say.
func TestAsGiven(t *testing.T) {
	far := []int{math.MinInt, -1, 0, 1, 2, 3, 4, math.MaxInt}
	var e []api.Entry
	for i, kind := range far {
		for j, id := range far {
			e = append(e, api.Entry{Mod: i, Kind: kind, Id: id, How: far[(i+j)%len(far)]})
		}
	}
	if all := logOf(t, 1000, e, e[len(e)-8:]).All(); !slices.Equal(all, slices.Concat(e, e[len(e)-8:])) {
		t.Errorf("%v, given %v", all, e)
	}
}

// 17.1: each short row of Mods, in two pieces cut at each place, each number of Entries at most.
func TestEachRow(t *testing.T) {
	var more func(row []int, left int)
	more = func(row []int, left int) {
		e := mods(row...)
		for cut := range len(e) + 1 {
			for most := 1; most <= len(e)+1; most++ {
				holdKept(t, most, e[:cut], e[cut:])
			}
		}
		for mod := -1; left > 0 && mod < 3; mod++ {
			more(append(slices.Clone(row), mod), left-1)
		}
	}
	more(nil, 6)
}

// 17.1: any Entries, in any pieces.
func TestAnyAdds(t *testing.T) {
	r := rand.New(rand.NewSource(171))
	for range 5000 {
		var adds [][]api.Entry
		mod := r.Intn(5)
		for range r.Intn(12) {
			var e []api.Entry
			for range r.Intn(6) {
				mod += max(0, r.Intn(5)-2)
				e = append(e, api.Entry{Mod: mod - r.Intn(20)/19, Kind: r.Intn(5), Id: r.Intn(9), How: r.Intn(5)})
			}
			adds = append(adds, e)
		}
		holdKept(t, 1+r.Intn(40), adds...)
	}
}

// 17.2: Since: the lists, and how far they go.
func TestSince(t *testing.T) {
	for i, c := range []struct {
		fell              string
		from, clock, most int
		want              string // Made, Turned, Gone, State, More
	}{
		{"", 0, 0, 0, "[] [] [] 0 false"},
		{"", 0, 5, 0, "[] [] [] 5 false"},
		{"", 5, 5, 1, "[] [] [] 5 false"},
		{"1M", 0, 1, 0, "[1] [] [] 1 false"},
		{"1T", 0, 1, 0, "[] [1] [] 1 false"},
		{"1G", 0, 1, 0, "[] [] [1] 1 false"},
		{"1M", 1, 1, 0, "[] [] [] 1 false"},
		{"1M", 0, 0, 0, "[] [] [] 0 false"},
		{"1M", 0, 9, 0, "[1] [] [] 9 false"},
		// What befell one id.
		{"1M 1T", 0, 2, 0, "[1] [] [] 2 false"},
		{"1M 1G", 0, 2, 0, "[] [] [] 2 false"},
		{"1M1G", 0, 2, 0, "[] [] [] 2 false"},
		{"1M 1T 1G", 0, 3, 0, "[] [] [] 3 false"},
		{"1T 1T", 0, 2, 0, "[] [1] [] 2 false"},
		{"1T 1G", 0, 2, 0, "[] [] [1] 2 false"},
		{"1M 1T 1G", 1, 3, 0, "[] [] [1] 3 false"},
		{"1M 1T 1G", 1, 2, 0, "[] [1] [] 2 false"},
		{"1M 1G 1M", 0, 3, 0, "[1] [] [] 3 false"},
		{"1M 1G 1T", 0, 3, 0, "[1] [] [] 3 false"},
		{"1G 1M", 0, 2, 0, "[] [1] [] 2 false"},
		{"1G 1M 1G", 0, 3, 0, "[] [] [1] 3 false"},
		{"1T 1M", 0, 2, 0, "[] [1] [] 2 false"},
		{"1M1M", 0, 1, 0, "[1] [] [] 1 false"},
		{"1G1G", 0, 1, 0, "[] [] [1] 1 false"},
		// The order is that in which ids first come.
		{"3M 1M 2M", 0, 3, 0, "[3 1 2] [] [] 3 false"},
		{"3T 1T 2T 1T 3T", 0, 5, 0, "[] [3 1 2] [] 5 false"},
		{"3T 1G 3G", 0, 3, 0, "[] [] [3 1] 3 false"},
		{"1G 3T 3G", 0, 3, 0, "[] [] [1 3] 3 false"},
		{"5T2G9M 4G7M1T", 0, 2, 0, "[9 7] [5 1] [2 4] 2 false"},
		{"3T 1M 3T 1G 2M 1M", 0, 6, 0, "[1 2] [3] [] 6 false"},
		// As many as there may be, all of one Mod together.
		{"1M 2M 3M", 0, 3, 1, "[1] [] [] 1 true"},
		{"1M 2M 3M", 0, 3, 2, "[1 2] [] [] 2 true"},
		{"1M 2M 3M", 0, 3, 3, "[1 2 3] [] [] 3 false"},
		{"1M 2M 3M", 0, 7, 3, "[1 2 3] [] [] 7 false"},
		{"1M 2M 3M", 2, 7, 1, "[3] [] [] 7 false"},
		{"1M 2M 3M", 0, 3, -1, "[1 2 3] [] [] 3 false"},
		{"1M 2M 3M", 0, 3, math.MinInt, "[1 2 3] [] [] 3 false"},
		{"1M 2M 3M", 0, 3, math.MaxInt, "[1 2 3] [] [] 3 false"},
		{"1M2M 3M", 0, 2, 2, "[1 2] [] [] 1 true"},
		{"1M 2M3M", 0, 2, 2, "[1] [] [] 1 true"},
		{"1M 2T 3G 4M", 0, 4, 3, "[1] [2] [3] 3 true"},
		{"1T 1T 1T 2T", 0, 4, 1, "[] [1] [] 3 true"},
		{"1M 2M 2G 3M", 0, 4, 1, "[1] [] [] 1 true"},
		{"1M 2M2G 3M", 0, 3, 1, "[1] [] [] 2 true"},
		{"1M 2M 1G 3M", 0, 4, 2, "[2 3] [] [] 4 false"},
		{"1M1G 2M 2G 3T4T", 0, 4, 1, "[] [] [] 3 true"},
		{"1M1G 2M3M", 0, 2, 1, "[] [] [] 1 true"},
		{"1M1G", 0, 1, 1, "[] [] [] 1 false"},
		// Of another kind nothing is taken, and no Mod.
		{". 1M . .", 0, 4, 0, "[1] [] [] 4 false"},
		{"1M . . 2M", 0, 4, 1, "[1] [] [] 1 true"},
		{"1M . . 2M", 0, 3, 1, "[1] [] [] 3 false"},
		{"1M . . 2M", 1, 4, 1, "[2] [] [] 4 false"},
		{".1M. .2M3M.", 0, 4, 1, "[1] [] [] 1 true"},
		{". . .", 0, 3, 1, "[] [] [] 3 false"},
	} {
		got, err := logOf(t, 100, fell(c.fell)).Since(api.LogMail, c.from, c.clock, c.most)
		if told := fmt.Sprint(got.Made, got.Turned, got.Gone, got.State, got.More); told != c.want || err != api.OK {
			t.Errorf("%d: %s from %d to %d, %d at most: %s, %d, want %s", i, c.fell, c.from, c.clock, c.most, told, err, c.want)
		}
	}
}

// 17.2: what is wrong.
func TestFloor(t *testing.T) {
	for i, c := range []struct {
		room              int
		fell              string
		from, clock, most int
		want              api.Errno
	}{
		{9, "1M 2M", -1, 2, 0, api.ErrFloor},
		{9, "1M 2M", math.MinInt, 2, 0, api.ErrFloor},
		{9, "1M 2M", 3, 2, 0, api.ErrFloor},
		{9, "1M 2M", math.MaxInt, 2, 0, api.ErrFloor},
		{9, "", 0, -1, 0, api.ErrFloor},
		{9, "", -1, -1, 0, api.ErrFloor},
		{9, "", math.MaxInt, math.MaxInt, 0, api.OK},
		{2, "1M 2M 3M 4M", 1, 4, 0, api.ErrFloor},
		{2, "1M 2M 3M 4M", 2, 4, 0, api.OK},
		{2, "1M 2M3M4M", 1, 4, 0, api.ErrFloor},
		{2, "1M 2M3M4M", 2, 4, 0, api.OK},
		{1, "1M .", 0, 2, 0, api.ErrFloor},
		{1, "1M .", 1, 2, 0, api.OK},
		{9, "1M2M", 0, 2, 1, api.ErrFloor},
		{9, "1M2M", 0, 2, 2, api.OK},
		{9, "1M2T3G", 0, 2, 2, api.ErrFloor},
		{9, ". . 1M2M", 0, 3, 1, api.ErrFloor},
		{9, "1M 2M3M", 0, 3, 1, api.OK},
		{9, "1M 2M3M", 1, 3, 1, api.ErrFloor},
		{9, "1M2M", 1, 2, 1, api.OK},
		{9, "1M2M", 0, 0, 1, api.OK},
	} {
		got, err := logOf(t, c.room, fell(c.fell)).Since(api.LogMail, c.from, c.clock, c.most)
		if err != c.want || err != api.OK && !same(got, api.Changes{}) {
			t.Errorf("%d: %s from %d to %d, %d at most: %v, %d, want %d", i, c.fell, c.from, c.clock, c.most, got, err, c.want)
		}
	}
}

// 17.2: each log of up to four Entries of one kind and two ids, each of the Mod ahead or the next.
func TestEachSmallLog(t *testing.T) {
	states, mosts := []int{-1, 0, 1, 2, 3, 4, 5, 6}, []int{0, 1, 2}
	var more func(row []api.Entry, left int)
	more = func(row []api.Entry, left int) {
		holdSince(t, 100, row, []int{api.LogMail}, states[:len(row)+4], mosts)
		if left == 0 {
			return
		}
		last := 1
		if len(row) > 0 {
			last = row[len(row)-1].Mod
		}
		for mod := last; mod < last+2; mod++ {
			for id := 1; id < 3; id++ {
				for how := api.Made; how <= api.Gone; how++ {
					more(append(slices.Clone(row), api.Entry{Mod: mod, Kind: api.LogMail, Id: id, How: how}), left-1)
				}
			}
		}
	}
	more(nil, 4)
}

// anyLog is Entries that may say anything.
func anyLog(r *rand.Rand) []api.Entry {
	var e []api.Entry
	mod := r.Intn(3) - 1
	for range r.Intn(30) {
		mod += max(0, r.Intn(4)-1)
		e = append(e, api.Entry{Mod: mod, Kind: 1 + r.Intn(3), Id: r.Intn(6), How: r.Intn(5)})
	}
	return e
}

// 17.2: any logs, also where the first went.
func TestAnyLogs(t *testing.T) {
	r := rand.New(rand.NewSource(172))
	for range 3000 {
		var states, mosts []int
		for range 5 {
			states = append(states, r.Intn(35)-1)
			mosts = append(mosts, r.Intn(8)-1)
		}
		holdSince(t, 1+r.Intn(35), anyLog(r), []int{0, 1, 2, 3}, states, mosts)
	}
}

// 17.2: numbers at the ends of what there are.
func TestFarNumbers(t *testing.T) {
	far := []int{math.MinInt, math.MinInt + 1, -1, 0, 1, math.MaxInt - 1, math.MaxInt}
	var e []api.Entry
	for _, mod := range far {
		for _, id := range far {
			e = append(e, api.Entry{Mod: mod, Kind: id, Id: id, How: api.Made}, api.Entry{Mod: mod, Kind: 0, Id: id, How: mod})
		}
	}
	for room := 1; room <= len(e); room++ {
		holdSince(t, room, e, far, far, far)
	}
}

// lifelike is Entries as an account has them: an id is made once, and comes no more when it is gone. Those up to old
// are there ahead of it.
func lifelike(r *rand.Rand, old int) []api.Entry {
	var e []api.Entry
	var there []int
	for id := range old {
		there = append(there, id+1)
	}
	next := old + 1
	for mod := 1; mod < 30; mod++ {
		for range r.Intn(4) {
			at := r.Intn(len(there) + 2)
			entry := api.Entry{Mod: mod, Kind: api.LogMail, Id: next, How: api.Made}
			switch {
			case at >= len(there):
				there = append(there, next)
				next++
			case r.Intn(2) == 0:
				entry.Id, entry.How = there[at], api.Turned
			default:
				entry.Id, entry.How = there[at], api.Gone
				there = slices.Delete(there, at, at+1)
			}
			e = append(e, entry)
		}
	}
	return e
}

// fold puts what a page tells behind what the pages ahead told; it tells which ids were Made and then Gone.
func fold(told map[int]int, page api.Changes) (passed []int) {
	for _, id := range page.Made {
		told[id] = api.Made
	}
	for _, id := range page.Turned {
		if told[id] != api.Made {
			told[id] = api.Turned
		}
	}
	for _, id := range page.Gone {
		if told[id] == api.Made {
			passed = append(passed, id)
			delete(told, id)
			continue
		}
		told[id] = api.Gone
	}
	return passed
}

// 17.3: from State on again and again, till there is no More.
func TestPages(t *testing.T) {
	r := rand.New(rand.NewSource(173))
	pages, passes := 0, 0
	for range 2000 {
		old := r.Intn(4)
		e := lifelike(r, old)
		l := logOf(t, len(e)+1, e)
		from, clock := r.Intn(10), 20+r.Intn(15)
		once, err := l.Since(api.LogMail, from, clock, 0)
		if err != api.OK || once.State != clock || once.More {
			t.Fatalf("at once: %v, %d", once, err)
		}
		most := 3 + r.Intn(6)
		told := map[int]int{}
		for at, more := from, true; more; pages++ {
			page, err := l.Since(api.LogMail, at, clock, most)
			if err != api.OK || size(page) > most || page.More && page.State <= at || page.State > clock {
				t.Fatalf("from %d, %d at most: %v, %d, of %v", at, most, page, err, e)
			}
			for _, id := range fold(told, page) {
				passes++
				if slices.Contains(slices.Concat(once.Made, once.Turned, once.Gone), id) {
					t.Fatalf("%d was made and then gone, and is in %v", id, once)
				}
			}
			at, more = page.State, page.More
			if !more && at != clock {
				t.Fatalf("no more behind %d, the clock being %d", at, clock)
			}
		}
		want := map[int]int{}
		fold(want, once)
		if fmt.Sprint(told) != fmt.Sprint(want) {
			t.Fatalf("page by page %v, at once %v, of %v", told, want, e)
		}
	}
	if pages < 4000 || passes < 100 {
		t.Errorf("%d pages, %d were made and then gone", pages, passes)
	}
}

// 17.2: methods of nil; and a log that New did not make does not panic.
func TestNone(t *testing.T) {
	var none *Log
	none.Add(nil)
	none.Add(mods(1, 2))
	if len(none.All()) != 0 || none.Floor() != 0 || none.Copy() != nil {
		t.Errorf("of nil: %v, Floor %d, Copy %v", none.All(), none.Floor(), none.Copy())
	}
	for _, n := range []int{math.MinInt, -1, 0, 1, math.MaxInt} {
		for _, from := range []int{-1, 0, 1, 2} {
			if c, err := none.Since(n, from, 1, n); !same(c, api.Changes{}) || err != api.ErrNone {
				t.Errorf("Since(%d, %d, 1, %d) of nil is %v, %d", n, from, n, c, err)
			}
		}
	}
	blank := &Log{}
	blank.Add(mods(1, 3, 2))
	if c, err := blank.Copy().Since(api.LogMail, 3, 9, 0); size(c) != 0 || err != api.OK {
		t.Errorf("of a log that New did not make: %v, %d", c, err)
	}
}

// R3: what is handed in is neither turned nor kept, what is told is new memory.
func TestNewMemory(t *testing.T) {
	room := mods(1, 2, 3, 4, 5)
	given, e := slices.Clone(room), room[:3]
	l := logOf(t, 3, e)
	if l.Add(mods(4)); !slices.Equal(room, given) {
		t.Fatalf("what was handed in is %v", room)
	}
	clear(room)
	want := mods(1, 2, 3)[1:]
	want = append(want, mods(4)...)
	for range 2 {
		all := l.All()
		if !slices.Equal(all, want) {
			t.Fatalf("%v is kept, want %v", all, want)
		}
		clear(all[:cap(all)])
	}
	// Whoever writes into spare room must not reach what is kept later.
	told := l.All()
	l.Add(mods(9))
	clear(told[:cap(told)])
	if all := l.All(); len(all) != 3 || all[2].Mod != 9 || all[0].Mod != 3 {
		t.Errorf("%v is kept", all)
	}
	l = logOf(t, 100, fell("1M2M3T4T5G6G 1T 7M 8M9T"))
	first, _ := l.Since(api.LogMail, 0, 9, 0)
	for range 2 {
		c, err := l.Since(api.LogMail, 0, 9, 0)
		if !same(c, first) || err != api.OK || size(c) != 9 {
			t.Fatalf("%v, %d, and at first %v", c, err, first)
		}
		lists := [][]int{c.Made, c.Turned, c.Gone}
		for i, list := range lists {
			for j := range list[:cap(list)] {
				list[:cap(list)][j] = -1 - i
			}
		}
		for i, list := range lists {
			if slices.ContainsFunc(list, func(n int) bool { return n != -1-i }) {
				t.Errorf("the lists share memory: %v", lists)
			}
		}
	}
}

// 17.1: a Copy is the same, and goes its own way; R5: two logs do not touch one another.
func TestCopy(t *testing.T) {
	r := rand.New(rand.NewSource(174))
	for range 3000 {
		room, e := 1+r.Intn(20), anyLog(r)
		l := logOf(t, room, e)
		copies := []*Log{l, l.Copy(), l.Copy().Copy(), logOf(t, room, e)}
		adds := make([][][]api.Entry, len(copies))
		for range r.Intn(12) {
			i, more := r.Intn(len(copies)), anyLog(r)
			for j := range more {
				more[j].Mod += 20
			}
			copies[i].Add(more)
			adds[i] = append(adds[i], more)
		}
		for i, c := range copies {
			h := historyOf(room, append([][]api.Entry{e}, adds[i]...)...)
			want, errWant := h.since(2, 15, 40, 3)
			got, err := c.Since(2, 15, 40, 3)
			if !slices.Equal(c.All(), h.all()) || c.Floor() != h.floor() || !same(got, want) || err != errWant {
				t.Fatalf("the log %d has %v, Floor %d, want %v, %d", i, c.All(), c.Floor(), h.all(), h.floor())
			}
		}
	}
}

// R1: the same calls tell the same, and asking turns nothing.
func TestSameAgain(t *testing.T) {
	var e []api.Entry
	for i := range 500 {
		e = append(e, api.Entry{Mod: 1 + i/7, Kind: api.LogMail, Id: i * 7919 % 211, How: 1 + i%3})
	}
	l := logOf(t, 400, e)
	want, errWant := historyOf(400, e).since(api.LogMail, 20, 90, 0)
	for i := range 200 {
		if got, err := l.Since(api.LogMail, 20, 90, 0); !same(got, want) || err != errWant {
			t.Fatalf("%d: %v, %d, want %v, %d", i, got, err, want, errWant)
		}
		l.Since(api.LogMail, 0, 90, i)
		l.Since(i, 20, 30, i)
	}
	if !slices.Equal(l.All(), historyOf(400, e).all()) {
		t.Errorf("asking turned what is kept")
	}
}

// R1: every call ends, and soon, of great logs; and no more room is taken than is needed.
func TestGreatLogs(t *testing.T) {
	const n = 1 << 20
	e := make([]api.Entry, n)
	for i := range e {
		e[i] = api.Entry{Mod: i/4 + 1, Kind: api.LogBox + i%2, Id: i, How: api.Made}
	}
	l := logOf(t, n, e)
	if c, err := l.Since(api.LogMail, 0, n, 0); err != api.OK || len(c.Made) != n/2 || c.State != n {
		t.Errorf("%d are made, State %d, %d", len(c.Made), c.State, err)
	}
	pages := 0
	for at, more := 0, true; more; pages++ {
		c, err := l.Since(api.LogMail, at, n, 3)
		if err != api.OK || len(c.Made) != 2 {
			t.Fatalf("from %d: %v, %d", at, c, err)
		}
		at, more = c.State, c.More
	}
	if pages != n/4 {
		t.Errorf("%d pages", pages)
	}
	for _, most := range []int{1, 2, 1000} {
		small := logOf(t, most, e)
		for i := range n {
			small.Add([]api.Entry{{Mod: n + i}})
		}
		if len(small.All()) != most || small.Floor() != n+n-1-most || cap(small.kept) > 4*most {
			t.Errorf("%d are kept of %d at most in the room of %d, Floor %d", len(small.All()), most, cap(small.kept), small.Floor())
		}
	}
}

// The chapter's way: Entries stand in a slice, and its front is cut off.
func TestWay(t *testing.T) {
	file, err := parser.ParseFile(token.NewFileSet(), "log.go", nil, 0)
	if err != nil {
		t.Fatal(err)
	}
	held, cut := "", 0
	ast.Inspect(file, func(n ast.Node) bool {
		if s, ok := n.(*ast.TypeSpec); ok && s.Name.Name == "Log" {
			for _, f := range s.Type.(*ast.StructType).Fields.List {
				if list, ok := f.Type.(*ast.ArrayType); ok && list.Len == nil {
					held += f.Names[0].Name
				} else if plain, ok := f.Type.(*ast.Ident); !ok || plain.Name != "int" {
					t.Errorf("a Log has more than numbers and a slice")
				}
			}
		}
		return true
	})
	named := func(e ast.Expr) bool {
		s, ok := e.(*ast.SelectorExpr)
		return ok && s.Sel.Name == held
	}
	ast.Inspect(file, func(n ast.Node) bool {
		if set, ok := n.(*ast.AssignStmt); ok && len(set.Rhs) == 1 && named(set.Lhs[0]) {
			if s, ok := set.Rhs[0].(*ast.SliceExpr); ok && named(s.X) && s.Low != nil && s.High == nil {
				cut++
			}
		}
		return true
	})
	if held == "" || cut != 1 {
		t.Errorf("the front of the slice %q is cut off at %d places", held, cut)
	}
}
