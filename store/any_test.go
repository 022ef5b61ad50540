package store

import (
	"fmt"
	"math/rand"
	"slices"
	"strings"
	"testing"

	"pillarbox/api"
	"pillarbox/log"
)

func letter(id, reply string) string {
	return "Message-Id: " + id + "\nIn-Reply-To: " + reply + "\n\n"
}

// states is rows of calls that lead to accounts of all sorts.
var states = [][]call{
	{},
	{makes("a", 0), makes("b", 2), makes("c", 3)},
	// Full of mailboxes.
	{makes("a", 0), makes("b", 0), makes("inbox", 2), makes("INBOX", 1)},
	{makes("a", 0), drops(2), makes("b", 0), makes("c", 3)},
	{appends([]int{1}, nil, 0, letter("<1>", ""))},
	{makes("a", 0), makes("b", 0), appends([]int{2, 1}, []string{"$seen", "x"}, 9, letter("<1>", "<2>")),
		appends([]int{3}, nil, 0, letter("<2>", "<1>"))},
	// Full of emails.
	{makes("a", 0), appends([]int{1}, nil, 0, ""), appends([]int{1, 2}, nil, 0, ""), appends([]int{1}, nil, 0, "x"),
		appends([]int{2}, []string{"x"}, 0, "")},
	// All but full of octets.
	{makes("a", 0), appends([]int{1, 2}, []string{"$seen"}, 0, strings.Repeat("x", 98))},
	// All but without numbers in INBOX, and without any.
	{makes("a", 0), appends([]int{1}, nil, 0, ""), places(1, 2), places(1, 1), places(1, 2), places(1, 1), places(1, 2)},
	{makes("a", 0), appends([]int{1}, nil, 0, ""), places(1, 2), places(1, 1), places(1, 2), places(1, 1), places(1, 2),
		places(1, 1)},
	{appends([]int{1}, nil, 0, letter("<1>", "")), appends([]int{1}, nil, 0, letter("<2>", "<1>")), destroys(1),
		appends([]int{1}, nil, 0, letter("<1>", "<2>"))},
	ended(),
}

// ended is calls up to the end of the clock.
func ended() []call {
	l := []call{makes("a", 0), makes("b", 2), appends([]int{1, 2}, []string{"x"}, 0, letter("<1>", ""))}
	for i := 4; i < small().MaxMod; i++ {
		l = append(l, keeps(1, fmt.Sprint("x", i)))
	}
	return append(l, keeps(1, "x29"))
}

var (
	someIds   = []int{-1 << 63, -1, 0, 1, 2, 3, 4, 5, 6, 1<<63 - 1}
	someNames = []string{"", "a", "b", "c", "inbox", "INBOX", "iNbOx", "x/y", "*", "%", "\x7f", "\x1f", "\xff", "\u00e4",
		strings.Repeat("x", 64), strings.Repeat("x", 65)}
	someBoxes = [][]int{nil, {}, {1}, {2}, {3}, {1, 2}, {2, 1}, {3, 2, 3, 1}, {1, 1}, {0}, {1, 9}, {9, 1}, {-1, 2}, {1, 2, 3, 4, 5}}
	someKeys  = [][]string{nil, {}, {"x"}, {"$seen"}, {"x", "$seen"}, {"$seen", "x", "$seen", "x"}, {"x29"}, {"X"}, {""},
		{"x", "a b"}, {strings.Repeat("x", 64)}, {strings.Repeat("x", 65)}, many(16), append(many(16), many(16)...), many(17), append(many(17), "X")}
	someTimes = []int{-1 << 63, -1, 0, 1, 253402300799, 253402300800, 1<<63 - 1}
	someTexts = []string{"", "x", letter("<1>", "<1>"), letter("<2>", "<1>"), letter("", ""), letter("<1>", "<2>"), letter("<3>", " "), strings.Repeat("y", 99), strings.Repeat("y", 100)}
)

// many is that many keywords.
func many(n int) []string {
	var l []string
	for i := range n {
		l = append(l, fmt.Sprint("k", i))
	}
	return l
}

// eachCall goes through calls of all sorts, right and wrong ones.
func eachCall(yield func(call)) {
	for _, id := range someIds {
		yield(drops(id))
		yield(destroys(id))
		for _, name := range someNames {
			yield(makes(name, id))
			for _, other := range someIds {
				yield(renames(other, name, id))
			}
		}
		for _, keys := range someKeys {
			yield(keeps(id, keys...))
		}
		for _, boxes := range someBoxes {
			yield(places(id, boxes...))
		}
	}
	for _, boxes := range someBoxes {
		for _, keys := range someKeys {
			for _, at := range someTimes {
				for _, text := range someTexts {
					yield(appends(boxes, keys, at, text))
				}
			}
		}
	}
}

// hits counts how calls ended, so that a test may see that it came by all.
type hits map[string]int

func (h hits) add(c call, err api.Errno) {
	h[fmt.Sprint(c.do, " ", err)]++
}

func (h hits) hold(t *testing.T, least int) {
	t.Helper()
	ends := map[string][]api.Errno{
		"Make":    {api.OK, api.ErrArg, api.ErrName, api.ErrTwice, api.ErrFull, api.ErrEnd},
		"Rename":  {api.OK, api.ErrArg, api.ErrName, api.ErrTwice, api.ErrBusy, api.ErrEnd},
		"Drop":    {api.OK, api.ErrArg, api.ErrName, api.ErrBusy, api.ErrEnd},
		"Append":  {api.OK, api.ErrArg, api.ErrMany, api.ErrName, api.ErrFull, api.ErrEnd},
		"Keys":    {api.OK, api.ErrArg, api.ErrMany, api.ErrName, api.ErrEnd},
		"Place":   {api.OK, api.ErrArg, api.ErrName, api.ErrEnd},
		"Destroy": {api.OK, api.ErrName, api.ErrEnd},
	}
	for do, errs := range ends {
		for _, err := range errs {
			if n := h[fmt.Sprint(do, " ", err)]; n < least {
				t.Errorf("%s came to %d only %d times", do, err, n)
			}
			delete(h, fmt.Sprint(do, " ", err))
		}
	}
	if len(h) > 0 {
		t.Errorf("what may not come: %v", h)
	}
}

// 18.2 to 18.6: each call of all sorts, on accounts of all sorts, does what it must, of several errors the first, and
// nothing beside an error; what is done to a Copy is not done to the first one.
func TestEachCall(t *testing.T) {
	came := hits{}
	for i, calls := range states {
		a, first := accountOf(small()), storeOf(t, small())
		for _, c := range calls {
			var err api.Errno
			if a, err = hold(t, first, a, c); err != api.OK {
				t.Fatalf("state %d: %s: %d", i, brief(c), err)
			}
		}
		eachCall(func(c call) {
			_, err := hold(t, first.Copy(), a, c)
			came.add(c, err)
		})
		if told(first) != a.told() {
			t.Errorf("state %d was changed through its copies: %s", i, brief(told(first)))
		}
	}
	came.hold(t, 1)
}

// anyConfig is limits that are come to, and some that are not.
func anyConfig(r *rand.Rand) api.Config {
	c := small()
	c.MaxMails, c.MaxBoxes, c.MaxSize = 1+r.Intn(12), 1+r.Intn(8), 50+r.Intn(500)
	c.MaxUid, c.MaxMod, c.MaxLog = 1+r.Intn(20), 1+r.Intn(120), 1+r.Intn(200)
	return c
}

func pick[V any](r *rand.Rand, l []V) V {
	return l[r.Intn(len(l))]
}

// anyCall is a call that is mostly right.
func anyCall(r *rand.Rand, a account) call {
	box, mail := 1+r.Intn(a.given[0]+1), 1+r.Intn(a.given[1]+1)
	if boxes := rising(a.boxes); r.Intn(5) > 0 {
		box = pick(r, boxes).Id
	}
	if mails := rising(a.mails); len(mails) > 0 && r.Intn(5) > 0 {
		mail = pick(r, mails).Id
	}
	var boxes []int
	for r.Intn(3) > 0 || len(boxes) == 0 && r.Intn(9) > 0 {
		boxes = append(boxes, pick(r, rising(a.boxes)).Id)
	}
	if r.Intn(20) == 0 {
		boxes = append(boxes, r.Intn(9))
	}
	var keys []string
	for r.Intn(3) > 0 {
		keys = append(keys, pick(r, []string{"$seen", "$seen", "x", "y", "z", "$deleted"}))
	}
	if r.Intn(20) == 0 {
		keys = pick(r, someKeys)
	}
	name, parent := string(rune('a'+r.Intn(4))), box*r.Intn(2)
	if r.Intn(12) == 0 {
		name = pick(r, someNames)
	}
	text := letter(fmt.Sprintf("<%d>", r.Intn(6)), fmt.Sprintf("<%d>", r.Intn(9))) + strings.Repeat("x", r.Intn(9))
	at := r.Intn(100)
	if r.Intn(20) == 0 {
		at = pick(r, someTimes)
	}
	return pick(r, []call{
		makes(name, parent), renames(box, name, parent*r.Intn(3)), drops(box), appends(boxes, keys, at, text),
		appends(boxes, keys, at, text), keeps(mail, keys...), places(mail, boxes...), places(mail, boxes...), destroys(mail),
	})
}

// 18.1 to 18.6: any rows of calls, by any limits.
func TestAnyCalls(t *testing.T) {
	r := rand.New(rand.NewSource(18))
	came := hits{}
	for range 700 {
		config := anyConfig(r)
		a, s := accountOf(config), storeOf(t, config)
		for range 80 {
			c := anyCall(r, a)
			var err api.Errno
			a, err = hold(t, s, a, c)
			came.add(c, err)
			if r.Intn(10) == 0 {
				s = s.Copy()
			}
		}
	}
	came.hold(t, 5)
}

// kept is a store as it is seen: what a client holds of it.
type kept struct {
	clock   int
	boxes   map[int]string
	mails   map[int]string
	threads map[int]string
	uids    map[api.Member]int // which email
	mods    map[string]int
}

func see(s *Store) kept {
	k := kept{s.Clock(), map[int]string{}, map[int]string{}, map[int]string{}, map[api.Member]int{}, map[string]int{}}
	for _, b := range s.Boxes() {
		k.boxes[b.Id] = fmt.Sprint(b)
		k.mods[fmt.Sprint("b", b.Id)] = b.Mod
	}
	for _, m := range s.Mails() {
		k.mails[m.Id] = fmt.Sprint(m)
		k.mods[fmt.Sprint("m", m.Id)] = m.Mod
		k.threads[m.Thread] += fmt.Sprint(m.Id, " ")
		for _, in := range m.Members {
			k.boxes[in.Box] += fmt.Sprint(" ", m.Id, slices.Contains(m.Keys, "$seen"))
			k.uids[in] = m.Id
		}
	}
	return k
}

// holdChanges holds that who held what was, and goes by what the log says, holds what is.
func holdChanges(t *testing.T, l *log.Log, from, to int, was, is map[int]string, kind int) {
	t.Helper()
	c, err := l.Since(kind, from, to, 0)
	if err != api.OK || c.More || c.State != to {
		t.Fatalf("Since(%d, %d, %d) is %v, %d", kind, from, to, c, err)
	}
	held := clone(was)
	for _, id := range c.Made {
		if was[id] != "" || is[id] == "" {
			t.Fatalf("%d of kind %d is told as made: %q, then %q", id, kind, was[id], is[id])
		}
		held[id] = is[id]
	}
	for _, id := range c.Turned {
		if was[id] == "" || is[id] == "" {
			t.Fatalf("%d of kind %d is told as turned: %q, then %q", id, kind, was[id], is[id])
		}
		held[id] = is[id]
	}
	for _, id := range c.Gone {
		if was[id] == "" || is[id] != "" {
			t.Fatalf("%d of kind %d is told as gone: %q, then %q", id, kind, was[id], is[id])
		}
		delete(held, id)
	}
	if fmt.Sprint(held) != fmt.Sprint(is) {
		t.Fatalf("by the log %v, but %v", held, is)
	}
}

// holdWhole holds what is so in each state.
func holdWhole(t *testing.T, s *Store) {
	t.Helper()
	next := map[int]int{}
	for _, b := range s.Boxes() {
		next[b.Id] = b.Next
		if b.Mod < b.Valid || b.Mod > s.Clock() {
			t.Fatalf("%+v at %d", b, s.Clock())
		}
	}
	for _, m := range s.Mails() {
		rise := slices.IsSortedFunc(m.Members, func(a, b api.Member) int { return a.Box - b.Box })
		if len(m.Members) == 0 || !rise || !slices.Equal(m.Keys, once(m.Keys)) || m.Mod < m.Born || m.Mod > s.Clock() {
			t.Fatalf("%+v at %d", m, s.Clock())
		}
		for _, in := range m.Members {
			if in.Uid < 1 || in.Uid >= next[in.Box] {
				t.Fatalf("%+v, but the next is %d", m, next[in.Box])
			}
		}
	}
}

// 18.7: no Uid comes twice, Mods never go back, each email is in a mailbox, and each state is what its log says of
// those ahead, of the last one and of others.
func TestFollows(t *testing.T) {
	r := rand.New(rand.NewSource(7))
	for range 200 {
		config := anyConfig(r)
		config.MaxLog = 1000
		a, s := accountOf(config), storeOf(t, config)
		seen := []kept{see(s)}
		ever := map[api.Member]int{}
		for range 80 {
			c := anyCall(r, a)
			a, _, _ = a.after(c)
			c.on(s)
			holdWhole(t, s)
			was, is := seen[len(seen)-1], see(s)
			if is.clock == was.clock {
				if fmt.Sprint(was) != fmt.Sprint(is) {
					t.Fatalf("%s is no step, but turns %v to %v", brief(c), was, is)
				}
				continue
			}
			if is.clock != was.clock+1 {
				t.Fatalf("%s lets the clock go from %d to %d", brief(c), was.clock, is.clock)
			}
			for in, id := range is.uids {
				if was.uids[in] != id && ever[in] != 0 {
					t.Fatalf("%s: %v comes again", brief(c), in)
				}
				ever[in] = id
			}
			for name, mod := range is.mods {
				if mod < was.mods[name] {
					t.Fatalf("%s: the Mod of %s goes back to %d", brief(c), name, mod)
				}
			}
			seen = append(seen, is)
			for _, old := range []kept{was, pick(r, seen)} {
				holdChanges(t, s.Log(), old.clock, is.clock, old.boxes, is.boxes, api.LogBox)
				holdChanges(t, s.Log(), old.clock, is.clock, old.mails, is.mails, api.LogMail)
				holdChanges(t, s.Log(), old.clock, is.clock, old.threads, is.threads, api.LogThread)
			}
		}
	}
}
