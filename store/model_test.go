package store

import (
	"cmp"
	"fmt"
	"maps"
	"regexp"
	"slices"
	"strings"
	"testing"
	"unicode/utf8"

	"pillarbox/api"
)

// brief is the beginning of what a test speaks of.
func brief(what any) string {
	return fmt.Sprintf("%.600s", fmt.Sprintf("%+v", what))
}

// call is a call that may change an account, with what it is given.
type call struct {
	do     string
	id     int
	name   string
	parent int
	boxes  []int
	keys   []string
	at     int
	text   string
}

func makes(name string, parent int) call {
	return call{do: "Make", name: name, parent: parent}
}

func renames(id int, name string, parent int) call {
	return call{do: "Rename", id: id, name: name, parent: parent}
}

func drops(id int) call {
	return call{do: "Drop", id: id}
}

func appends(boxes []int, keys []string, at int, text string) call {
	return call{do: "Append", boxes: boxes, keys: keys, at: at, text: text}
}

func keeps(id int, keys ...string) call {
	return call{do: "Keys", id: id, keys: keys}
}

func places(id int, boxes ...int) call {
	return call{do: "Place", id: id, boxes: boxes}
}

func destroys(id int) call {
	return call{do: "Destroy", id: id}
}

// on does a call; the Id is 0 where the call tells none.
func (c call) on(s *Store) (int, api.Errno) {
	switch c.do {
	case "Make":
		return s.Make(c.name, c.parent)
	case "Rename":
		return 0, s.Rename(c.id, c.name, c.parent)
	case "Drop":
		return 0, s.Drop(c.id)
	case "Append":
		return s.Append(c.boxes, c.keys, c.at, c.text)
	case "Keys":
		return 0, s.Keys(c.id, c.keys)
	case "Place":
		return 0, s.Place(c.id, c.boxes)
	case "Destroy":
		return 0, s.Destroy(c.id)
	}
	panic(c.do)
}

// account is an oracle: a plain value. A call writes down another one, without a thought of Mods and Entries; these
// are read off the two.
type account struct {
	config api.Config
	clock  int
	boxes  map[int]api.Box
	mails  map[int]api.Mail
	given  [2]int // the Ids that mailboxes, and emails, got last
	ever   []api.Entry
}

func accountOf(c api.Config) account {
	return account{
		config: c,
		clock:  1,
		boxes:  map[int]api.Box{1: {Id: 1, Name: "INBOX", Valid: 1, Next: 1, Mod: 1}},
		given:  [2]int{1, 0},
	}
}

// rising is the values of a map by their Ids.
func rising[V any](m map[int]V) []V {
	var l []V
	for _, id := range slices.Sorted(maps.Keys(m)) {
		l = append(l, m[id])
	}
	return l
}

func clone[V any](m map[int]V) map[int]V {
	c := map[int]V{}
	maps.Copy(c, m)
	return c
}

func once[V cmp.Ordered](l []V) []V {
	return slices.Compact(slices.Sorted(slices.Values(l)))
}

// wrong is something that may be wrong, and its number.
type wrong struct {
	is  bool
	err api.Errno
}

func firstOf(l ...wrong) api.Errno {
	for _, w := range l {
		if w.is {
			return w.err
		}
	}
	return api.OK
}

var rightName = regexp.MustCompile(`\A[^\x00-\x1f\x7f/*%]+\z`)
var rightKey = regexp.MustCompile("\\A[!#$&'+,\\-./0-9:;<=>?@\\[^_`a-z|~]{1,64}\\z")

func (a account) isBox(id int) bool {
	_, ok := a.boxes[id]
	return ok
}

// unfit is what may be wrong with a name below a parent.
func (a account) unfit(c call) []wrong {
	twice := c.parent == 0 && strings.EqualFold(c.name, "inbox")
	for _, b := range a.boxes {
		twice = twice || b.Id != c.id && b.Name == c.name && b.Parent == c.parent
	}
	return []wrong{
		{!utf8.ValidString(c.name) || !rightName.MatchString(c.name) || len(c.name) > 64, api.ErrArg},
		{c.parent != 0 && !a.isBox(c.parent), api.ErrName},
		{twice, api.ErrTwice},
	}
}

// line is a mailbox and all those above it.
func (a account) line(id int) []int {
	if id == 0 {
		return nil
	}
	return append(a.line(a.boxes[id].Parent), id)
}

func (a account) isIn(m api.Mail, box int) bool {
	return slices.ContainsFunc(m.Members, func(in api.Member) bool { return in.Box == box })
}

func (a account) isBusy(id int) bool {
	for _, b := range a.boxes {
		if b.Parent == id {
			return true
		}
	}
	for _, m := range a.mails {
		if a.isIn(m, id) {
			return true
		}
	}
	return false
}

func badKeys(l []string) api.Errno {
	for _, key := range l {
		if !rightKey.MatchString(key) {
			return api.ErrArg
		}
	}
	return firstOf(wrong{len(once(l)) > 16, api.ErrMany})
}

func (a account) badBoxes(l []int) api.Errno {
	for _, id := range l {
		if !a.isBox(id) {
			return api.ErrName
		}
	}
	return api.OK
}

func (a account) octets() int {
	n := 0
	for _, m := range a.mails {
		n += len(m.Text)
	}
	return n
}

// wrongs is the first that is wrong with a call, but for ErrEnd.
func (a account) wrongs(c call) api.Errno {
	_, isMail := a.mails[c.id]
	keys, boxes := badKeys(c.keys), a.badBoxes(c.boxes)
	switch c.do {
	case "Make":
		return firstOf(append(a.unfit(c), wrong{len(a.boxes) >= a.config.MaxBoxes, api.ErrFull})...)
	case "Rename":
		all := []wrong{{!a.isBox(c.id), api.ErrName}, {c.id == 1, api.ErrArg}}
		if err := firstOf(append(all, a.unfit(c)...)...); err != api.OK {
			return err
		}
		return firstOf(wrong{slices.Contains(a.line(c.parent), c.id), api.ErrBusy})
	case "Drop":
		return firstOf(wrong{!a.isBox(c.id), api.ErrName}, wrong{c.id == 1, api.ErrArg}, wrong{a.isBusy(c.id), api.ErrBusy})
	case "Append":
		full := len(a.mails) >= a.config.MaxMails || a.octets()+len(c.text) > a.config.MaxSize
		return firstOf(
			wrong{len(c.boxes) == 0 || c.at < 0 || c.at > 253402300799, api.ErrArg}, wrong{keys != api.OK, keys},
			wrong{boxes != api.OK, boxes}, wrong{full, api.ErrFull})
	case "Keys":
		return firstOf(wrong{!isMail, api.ErrName}, wrong{keys != api.OK, keys})
	case "Place":
		return firstOf(wrong{!isMail, api.ErrName}, wrong{len(c.boxes) == 0, api.ErrArg}, wrong{boxes != api.OK, boxes})
	case "Destroy":
		return firstOf(wrong{!isMail, api.ErrName})
	}
	panic(c.do)
}

// headerOf is the value of a header in a text that goes on no lines.
func headerOf(text, name string) string {
	header, _, _ := strings.Cut("\n"+strings.ReplaceAll(text, "\r\n", "\n"), "\n\n")
	found := regexp.MustCompile(`(?i)\n` + name + `:[ \t]*([^\n]*)`).FindStringSubmatch(header)
	if found == nil {
		return ""
	}
	return strings.TrimRight(found[1], " \t")
}

func (a account) threadOf(m api.Mail) int {
	reply := headerOf(m.Text, "In-Reply-To")
	for _, other := range rising(a.mails) {
		if reply != "" && headerOf(other.Text, "Message-Id") == reply {
			return other.Thread
		}
	}
	return m.Id
}

// into is where an email is behind its way to these mailboxes; they count on.
func (a account) into(was []api.Member, boxes []int) []api.Member {
	var l []api.Member
	for _, id := range once(boxes) {
		stays := slices.IndexFunc(was, func(in api.Member) bool { return in.Box == id })
		if stays >= 0 {
			l = append(l, was[stays])
			continue
		}
		b := a.boxes[id]
		l = append(l, api.Member{Box: id, Uid: b.Next})
		b.Next++
		a.boxes[id] = b
	}
	return l
}

// done is the account behind a call with which nothing is wrong, but for what hangs on the clock.
func (a account) done(c call) (account, int) {
	a.boxes, a.mails = clone(a.boxes), clone(a.mails)
	switch c.do {
	case "Make":
		a.given[0]++
		a.boxes[a.given[0]] = api.Box{Id: a.given[0], Name: c.name, Parent: c.parent, Valid: a.clock + 1, Next: 1}
		return a, a.given[0]
	case "Rename":
		b := a.boxes[c.id]
		b.Name, b.Parent = c.name, c.parent
		a.boxes[c.id] = b
	case "Drop":
		delete(a.boxes, c.id)
	case "Append":
		a.given[1]++
		m := api.Mail{Id: a.given[1], Text: c.text, At: c.at, Keys: once(c.keys), Born: a.clock + 1}
		m.Members, m.Thread = a.into(nil, c.boxes), a.threadOf(m)
		a.mails[m.Id] = m
		return a, m.Id
	case "Keys":
		m := a.mails[c.id]
		m.Keys = once(c.keys)
		a.mails[c.id] = m
	case "Place":
		m := a.mails[c.id]
		m.Members = a.into(m.Members, c.boxes)
		a.mails[c.id] = m
	case "Destroy":
		delete(a.mails, c.id)
	}
	return a, 0
}

// faces is what is to be seen of each thing of a kind, but for Mods.
func (a account) faces(kind int) map[int]string {
	faces := map[int]string{}
	if kind == api.LogBox {
		for _, b := range a.boxes {
			b.Mod = 0
			faces[b.Id] = fmt.Sprint(b)
		}
	}
	for _, m := range rising(a.mails) {
		switch kind {
		case api.LogBox:
			for _, in := range m.Members {
				faces[in.Box] += fmt.Sprint(" ", in.Uid, slices.Contains(m.Keys, "$seen"))
			}
		case api.LogMail:
			faces[m.Id] = fmt.Sprint(m.Keys, m.Members)
		case api.LogThread:
			faces[m.Thread] += fmt.Sprint(" ", m.Id)
		}
	}
	return faces
}

// entries is what befell everything between two accounts.
func entries(was, is account) []api.Entry {
	var all []api.Entry
	for kind := api.LogBox; kind <= api.LogThread; kind++ {
		old, now := was.faces(kind), is.faces(kind)
		both := clone(old)
		maps.Copy(both, now)
		for _, id := range slices.Sorted(maps.Keys(both)) {
			e := api.Entry{Mod: was.clock + 1, Kind: kind, Id: id}
			switch {
			case old[id] == "":
				e.How = api.Made
			case now[id] == "":
				e.How = api.Gone
			case old[id] != now[id]:
				e.How = api.Turned
			default:
				continue
			}
			all = append(all, e)
		}
	}
	return all
}

// after is the account behind a call, and what the call tells.
func (a account) after(c call) (account, int, api.Errno) {
	if err := a.wrongs(c); err != api.OK {
		return a, 0, err
	}
	next, id := a.done(c)
	changed := entries(a, next)
	if len(changed) == 0 {
		return a, id, api.OK
	}
	ends := a.clock >= a.config.MaxMod
	for _, b := range a.boxes {
		ends = ends || b.Next > a.config.MaxUid && next.boxes[b.Id].Next > b.Next
	}
	if ends {
		return a, 0, api.ErrEnd
	}
	next.clock++
	next.ever = slices.Concat(a.ever, changed)
	for _, e := range changed {
		if b, ok := next.boxes[e.Id]; ok && e.Kind == api.LogBox {
			b.Mod = next.clock
			next.boxes[e.Id] = b
		}
		if m, ok := next.mails[e.Id]; ok && e.Kind == api.LogMail {
			m.Mod = next.clock
			next.mails[e.Id] = m
		}
	}
	return next, id, api.OK
}

// floor is the Mod of the last Entry that the log has not any more.
func (a account) floor() int {
	if cut := len(a.ever) - a.config.MaxLog; cut > 0 {
		return a.ever[cut-1].Mod
	}
	return 0
}

// told is all that an account tells of itself.
func told(s *Store) string {
	return fmt.Sprintf("%d %+v %+v %v %d", s.Clock(), s.Boxes(), s.Mails(), s.Log().All(), s.Log().Floor())
}

// told is what it must tell.
func (a account) told() string {
	kept := a.ever[max(0, len(a.ever)-a.config.MaxLog):]
	return fmt.Sprintf("%d %+v %+v %v %d", a.clock, rising(a.boxes), rising(a.mails), kept, a.floor())
}

// hold holds what a call tells, and the account behind it, against the oracle.
func hold(t *testing.T, s *Store, a account, c call) (account, api.Errno) {
	t.Helper()
	next, wantId, want := a.after(c)
	id, err := c.on(s)
	if id != wantId || err != want {
		t.Fatalf("%s tells %d, %d, want %d, %d; ahead of it %s", brief(c), id, err, wantId, want, brief(a.told()))
	}
	if is := told(s); is != next.told() {
		t.Fatalf("%s: %s\nwant %s\nahead of it %s", brief(c), is, next.told(), brief(a.told()))
	}
	return next, err
}

// small is limits that are soon come to.
func small() api.Config {
	return api.Config{User: "u", Pass: "p", MaxMails: 4, MaxBoxes: 5, MaxSize: 99, MaxUid: 4, MaxMod: 30, MaxLog: 20, MaxGet: 3}
}

// wide is limits that are not come to.
func wide() api.Config {
	const far = 1<<31 - 1
	return api.Config{User: "u", Pass: "p", MaxMails: far, MaxBoxes: far, MaxSize: far, MaxUid: far, MaxMod: far, MaxLog: far, MaxGet: far}
}

// storeOf is an account that has done these, each without an error.
func storeOf(t *testing.T, c api.Config, calls ...call) *Store {
	t.Helper()
	s, err := New(c)
	if s == nil || err != api.OK {
		t.Fatalf("New(%+v) is %v, %d", c, s, err)
	}
	for _, each := range calls {
		if _, err := each.on(s); err != api.OK {
			t.Fatalf("%s: %d", brief(each), err)
		}
	}
	return s
}

// lastly is what the log has of the last step.
func lastly(s *Store) string {
	var l []api.Entry
	for _, e := range s.Log().All() {
		if e.Mod == s.Clock() {
			l = append(l, e)
		}
	}
	return fmt.Sprint(l)
}

// show is the clock, mailboxes and emails, in few letters.
func show(s *Store) string {
	out := fmt.Sprint(s.Clock())
	for _, b := range s.Boxes() {
		out += fmt.Sprintf(" b%d=%s below %d valid %d next %d mod %d;", b.Id, b.Name, b.Parent, b.Valid, b.Next, b.Mod)
	}
	for _, m := range s.Mails() {
		out += fmt.Sprintf(" m%d of t%d at %d %q %v %v mod %d born %d;", m.Id, m.Thread, m.At, m.Text, m.Keys, m.Members, m.Mod, m.Born)
	}
	return out
}
