package store

import (
	"fmt"
	"go/ast"
	"go/parser"
	"go/token"
	"math/rand"
	"os"
	"slices"
	"strings"
	"testing"
	"unsafe"

	"pillarbox/api"
)

// limits is the limits of a Config, by their places.
func limits(c *api.Config) []*int {
	return []*int{&c.MaxMails, &c.MaxBoxes, &c.MaxSize, &c.MaxUid, &c.MaxMod, &c.MaxLog, &c.MaxGet}
}

// 18.1: a new account, by each limit at both its ends, and beyond them.
func TestNew(t *testing.T) {
	for i := range limits(&api.Config{}) {
		for _, limit := range []int{1, 2, 1<<31 - 2, 1<<31 - 1} {
			c := small()
			*limits(&c)[i] = limit
			s := storeOf(t, c)
			if got := show(s); got != "1 b1=INBOX below 0 valid 1 next 1 mod 1;" || s.Config() != c {
				t.Errorf("New(%+v) is %s, %+v", c, got, s.Config())
			}
			if len(s.Log().All()) != 0 || s.Log().Floor() != 0 {
				t.Errorf("the log of a new account is %v", s.Log().All())
			}
		}
		for _, limit := range []int{-1 << 63, -1 << 31, -1, 0, 1 << 31, 1<<32 + 1, 1<<63 - 1} {
			c := small()
			*limits(&c)[i] = limit
			if s, err := New(c); s != nil || err != api.ErrArg {
				t.Errorf("New(%+v) is %v, %d", c, s, err)
			}
		}
	}
}

// 18.1: User and Pass are Atoms, one as the other.
func TestNames(t *testing.T) {
	for _, name := range []string{"", " ", "a b", "a\n", "\u00e4", "\x7f"} {
		for _, c := range []api.Config{{User: name, Pass: "p"}, {User: "u", Pass: name}, {User: name, Pass: name}} {
			full := wide()
			full.User, full.Pass = c.User, c.Pass
			if s, err := New(full); s != nil || err != api.ErrArg {
				t.Errorf("New(%+v) is %v, %d", full, s, err)
			}
		}
	}
	for n := range 256 {
		name := string([]byte{'a', byte(n), 'b'})
		isAtom := n >= 33 && n <= 126 && !strings.ContainsRune(`(){}%*"\]`, rune(n))
		for _, c := range []api.Config{{User: name, Pass: "p"}, {User: "u", Pass: name}} {
			full := wide()
			full.User, full.Pass = c.User, c.Pass
			if s, err := New(full); (s != nil) != isAtom || (err == api.OK) != isAtom {
				t.Errorf("New(%+v) is %v, %d", full, s, err)
			}
		}
	}
}

// row is calls ahead, a call, and what comes of it.
type row struct {
	ahead []call
	call  call
	id    int
	err   api.Errno
	last  string // the log's Entries of the last step
	show  string // the end of what is shown; empty: as it was
}

func holdRow(t *testing.T, c api.Config, r row) {
	t.Helper()
	s := storeOf(t, c, r.ahead...)
	before, log := show(s), s.Log().All()
	id, err := r.call.on(s)
	if id != r.id || err != r.err {
		t.Errorf("%s tells %d, %d, want %d, %d", brief(r.call), id, err, r.id, r.err)
	}
	if r.show == "" {
		if show(s) != before || !slices.Equal(s.Log().All(), log) {
			t.Errorf("%s turns %s to %s", brief(r.call), before, show(s))
		}
		return
	}
	if got := show(s); !strings.HasSuffix(got, " "+r.show) || lastly(s) != r.last || s.Clock() != len(r.ahead)+2 {
		t.Errorf("%s: %s, %s\nwant %d .. %s, %s", brief(r.call), got, lastly(s), len(r.ahead)+2, r.show, r.last)
	}
}

// 18.3: what comes of calls for mailboxes.
func TestBoxes(t *testing.T) {
	two := []call{makes("a", 0), makes("b", 2)}
	full := append(slices.Clone(two), makes("c", 1), makes("d", 1))
	for _, r := range []row{
		{nil, makes("a", 0), 2, 0, "[{2 1 2 1}]", "b1=INBOX below 0 valid 1 next 1 mod 1; b2=a below 0 valid 2 next 1 mod 2;"},
		{two, makes("a", 2), 4, 0, "[{4 1 4 1}]", "b3=b below 2 valid 3 next 1 mod 3; b4=a below 2 valid 4 next 1 mod 4;"},
		{two, makes("A", 0), 4, 0, "[{4 1 4 1}]", "b4=A below 0 valid 4 next 1 mod 4;"},
		{two, makes("inbox", 1), 4, 0, "[{4 1 4 1}]", "b4=inbox below 1 valid 4 next 1 mod 4;"},
		{two, makes("inbox ", 0), 4, 0, "[{4 1 4 1}]", "b4=inbox  below 0 valid 4 next 1 mod 4;"},
		{two, makes("a", 0), 0, api.ErrTwice, "", ""},
		{two, makes("b", 2), 0, api.ErrTwice, "", ""},
		{two, makes("INBOX", 0), 0, api.ErrTwice, "", ""},
		{two, makes("iNboX", 0), 0, api.ErrTwice, "", ""},
		{two, makes("x", 4), 0, api.ErrName, "", ""},
		{two, makes("x", -1), 0, api.ErrName, "", ""},
		{two, makes("", 4), 0, api.ErrArg, "", ""},
		{two, makes("a*", 0), 0, api.ErrArg, "", ""},
		{full, makes("", 9), 0, api.ErrArg, "", ""},
		{full, makes("x", 9), 0, api.ErrName, "", ""},
		{full, makes("a", 0), 0, api.ErrTwice, "", ""},
		{full, makes("x", 0), 0, api.ErrFull, "", ""},

		{two, renames(3, "c", 2), 0, 0, "[{4 1 3 2}]", "b3=c below 2 valid 3 next 1 mod 4;"},
		{two, renames(3, "b", 0), 0, 0, "[{4 1 3 2}]", "b3=b below 0 valid 3 next 1 mod 4;"},
		{two, renames(3, "b", 1), 0, 0, "[{4 1 3 2}]", "b3=b below 1 valid 3 next 1 mod 4;"},
		{two, renames(2, "A", 0), 0, 0, "[{4 1 2 2}]", "b2=A below 0 valid 2 next 1 mod 4; b3=b below 2 valid 3 next 1 mod 3;"},
		{full, renames(2, "z", 4), 0, 0, "[{6 1 2 2}]", "b2=z below 4 valid 2 next 1 mod 6; b3=b below 2 valid 3 next 1 mod 3; b4=c below 1 valid 4 next 1 mod 4; b5=d below 1 valid 5 next 1 mod 5;"},
		{two, renames(3, "inbox", 2), 0, 0, "[{4 1 3 2}]", "b3=inbox below 2 valid 3 next 1 mod 4;"},
		{two, renames(3, "b", 2), 0, 0, "", ""},
		{two, renames(2, "a", 0), 0, 0, "", ""},
		{two, renames(4, "", 9), 0, api.ErrName, "", ""},
		{two, renames(0, "x", 0), 0, api.ErrName, "", ""},
		{two, renames(1, "x", 0), 0, api.ErrArg, "", ""},
		{two, renames(1, "x", 9), 0, api.ErrArg, "", ""},
		{two, renames(1, "INBOX", 0), 0, api.ErrArg, "", ""},
		{two, renames(2, "a/b", 9), 0, api.ErrArg, "", ""},
		{two, renames(2, "x", 9), 0, api.ErrName, "", ""},
		{two, renames(3, "a", 0), 0, api.ErrTwice, "", ""},
		{two, renames(3, "Inbox", 0), 0, api.ErrTwice, "", ""},
		{two, renames(2, "b", 2), 0, api.ErrTwice, "", ""},
		{two, renames(2, "a", 2), 0, api.ErrBusy, "", ""},
		{two, renames(2, "a", 3), 0, api.ErrBusy, "", ""},
		{full, renames(2, "a", 3), 0, api.ErrBusy, "", ""},

		{two, drops(3), 0, 0, "[{4 1 3 3}]", "b2=a below 0 valid 2 next 1 mod 2;"},
		{two, drops(4), 0, api.ErrName, "", ""},
		{two, drops(0), 0, api.ErrName, "", ""},
		{two, drops(1), 0, api.ErrArg, "", ""},
		{two, drops(2), 0, api.ErrBusy, "", ""},
		{append(slices.Clone(two), appends([]int{1, 3}, nil, 0, "")), drops(3), 0, api.ErrBusy, "", ""},
		{append(slices.Clone(two), appends([]int{1, 3}, nil, 0, ""), places(1, 1)), drops(3), 0, 0, "[{6 1 3 3}]", "b2=a below 0 valid 2 next 1 mod 2; m1 of t1 at 0 \"\" [] [{1 1}] mod 5 born 4;"},
		{append(slices.Clone(two), drops(3)), makes("b", 2), 4, 0, "[{5 1 4 1}]", "b2=a below 0 valid 2 next 1 mod 2; b4=b below 2 valid 5 next 1 mod 5;"},
		{append(slices.Clone(two), drops(3), drops(2)), makes("x", 3), 0, api.ErrName, "", ""},
	} {
		holdRow(t, small(), r)
	}
}

// 18.4: what comes of Append.
func TestAppend(t *testing.T) {
	boxes := []call{makes("a", 0), makes("b", 0)}
	full := []call{appends([]int{1}, nil, 0, ""), appends([]int{1}, nil, 0, ""), appends([]int{1}, nil, 0, ""), appends([]int{1}, nil, 0, "")}
	sized := []call{appends([]int{1}, nil, 0, strings.Repeat("x", 60)), appends([]int{1}, nil, 0, strings.Repeat("x", 30))}
	for _, r := range []row{
		{nil, appends([]int{1}, nil, 0, "a"), 1, 0, "[{2 1 1 2} {2 2 1 1} {2 3 1 1}]",
			"b1=INBOX below 0 valid 1 next 2 mod 2; m1 of t1 at 0 \"a\" [] [{1 1}] mod 2 born 2;"},
		{boxes, appends([]int{3, 1, 3}, []string{"x", "$seen", "x"}, 253402300799, ""), 1, 0, "[{4 1 1 2} {4 1 3 2} {4 2 1 1} {4 3 1 1}]",
			"b1=INBOX below 0 valid 1 next 2 mod 4; b2=a below 0 valid 2 next 1 mod 2; b3=b below 0 valid 3 next 2 mod 4; m1 of t1 at 253402300799 \"\" [$seen x] [{1 1} {3 1}] mod 4 born 4;"},
		{sized, appends([]int{1}, nil, 0, strings.Repeat("x", 9)), 3, 0, "[{4 1 1 2} {4 2 3 1} {4 3 3 1}]",
			"m3 of t3 at 0 \"xxxxxxxxx\" [] [{1 3}] mod 4 born 4;"},
		{append(slices.Clone(sized), destroys(1)), appends([]int{1}, nil, 0, strings.Repeat("x", 69)), 3, 0, "[{5 1 1 2} {5 2 3 1} {5 3 3 1}]",
			"m3 of t3 at 0 \"" + strings.Repeat("x", 69) + "\" [] [{1 3}] mod 5 born 5;"},
		{append(slices.Clone(full), destroys(2)), appends([]int{1}, nil, 0, ""), 0, api.ErrEnd, "", ""}, // MaxUid is 4
		{boxes, appends(nil, []string{"X"}, 0, ""), 0, api.ErrArg, "", ""},
		{boxes, appends(nil, many(17), 0, ""), 0, api.ErrArg, "", ""},
		{boxes, appends([]int{}, nil, 0, ""), 0, api.ErrArg, "", ""},
		{boxes, appends([]int{9}, many(17), -1, ""), 0, api.ErrArg, "", ""},
		{boxes, appends([]int{9}, many(17), 253402300800, ""), 0, api.ErrArg, "", ""},
		{boxes, appends([]int{9}, []string{"$Seen"}, 0, ""), 0, api.ErrArg, "", ""},
		{boxes, appends([]int{9}, many(17), 0, ""), 0, api.ErrMany, "", ""},
		{boxes, appends([]int{1, 4}, nil, 0, strings.Repeat("x", 100)), 0, api.ErrName, "", ""},
		{boxes, appends([]int{0}, nil, 0, ""), 0, api.ErrName, "", ""},
		{nil, appends([]int{1}, nil, 0, strings.Repeat("x", 100)), 0, api.ErrFull, "", ""},
		{sized, appends([]int{1}, nil, 0, strings.Repeat("x", 10)), 0, api.ErrFull, "", ""},
		{full, appends([]int{9}, nil, 0, ""), 0, api.ErrName, "", ""},
		{full, appends([]int{1}, nil, 0, ""), 0, api.ErrFull, "", ""}, // ahead of ErrEnd
	} {
		holdRow(t, small(), r)
	}
}

// 18.4: threads, by what texts say of themselves and of one another.
func TestThreads(t *testing.T) {
	in := func(texts ...string) []call {
		var l []call
		for _, text := range texts {
			l = append(l, appends([]int{1}, nil, 0, text))
		}
		return l
	}
	for _, c := range []struct {
		calls []call
		want  string // the threads of all emails
	}{
		{in("Message-Id: <1>\n", "In-Reply-To: <1>\n"), "1 1"},
		{in("MESSAGE-ID:\t<1> \r\n\r\n", "a: b\nin-reply-to: <1>"), "1 1"},
		{in("Message-Id:\n <1>\n  x\n", "In-Reply-To: <1>\n  x\n"), "1 1"},
		{in("Message-Id: <1>\n", "In-Reply-To: <1> <2>\n", "In-Reply-To: <2> <1>\n"), "1 2 3"},
		{in("Message-Id: <1>\n", "In-Reply-To: <1\n", "In-Reply-To: <11>\n", "In-Reply-To: 1\n"), "1 2 3 4"},
		{in("Message-Id: <a>\n", "In-Reply-To: <A>\n"), "1 2"},
		{in("Message-Id: <1>\n", "\nIn-Reply-To: <1>\n"), "1 2"}, // of the body nothing is asked
		{in("\nMessage-Id: <1>\n", "In-Reply-To: <1>\n"), "1 2"},
		{in("Message-Id: <1>\n", "References: <1>\n"), "1 2"},
		{in("Message-Id:\n", "In-Reply-To:\n", "In-Reply-To: \t\n", "a: b\n"), "1 2 3 4"},
		{in("", ""), "1 2"},
		{in("In-Reply-To: <1>\n", "Message-Id: <1>\n"), "1 2"}, // what comes later is not answered yet
		{in("Message-Id: <1>\nIn-Reply-To: <1>\n", "In-Reply-To: <1>\n"), "1 1"},
		{in("Message-Id: <1>\nMessage-Id: <2>\n", "In-Reply-To: <2>\n", "In-Reply-To: <1>\n"), "1 2 1"}, // the First
		{in("Message-Id: <1>\n", "In-Reply-To: <0>\nIn-Reply-To: <1>\n", "In-Reply-To:\nIn-Reply-To: <1>\n"), "1 2 3"},
		{in("Message-Id:\nMessage-Id: <1>\n", "In-Reply-To: <1>\n"), "1 2"},
		{in(letter("<1>", ""), letter("<2>", "<1>"), letter("<3>", "<2>"), letter("", "<3>")), "1 1 1 1"},
		{in(letter("<1>", ""), letter("<2>", ""), letter("<1>", "<2>"), letter("", "<1>")), "1 2 2 1"}, // the first by Id
		{append(in(letter("<1>", ""), letter("<2>", ""), letter("<1>", "<2>")), destroys(1), in(letter("", "<1>"))[0]), "2 2 2"},
		{append(in(letter("<1>", ""), letter("<2>", "<1>")), destroys(1), in(letter("", "<2>"))[0], in(letter("", "<1>"))[0]), "1 1 4"},
	} {
		s := storeOf(t, wide(), c.calls...)
		var got []string
		for _, m := range s.Mails() {
			got = append(got, fmt.Sprint(m.Thread))
		}
		if strings.Join(got, " ") != c.want {
			t.Errorf("%s: threads %s, want %s", brief(c.calls), got, c.want)
		}
		if same := s.Copy(); told(same) != told(s) {
			t.Errorf("%s: a copy is %s", brief(c.calls), brief(told(same)))
		}
	}
}

// 18.5: what comes of calls for emails.
func TestMails(t *testing.T) {
	three := []call{makes("a", 0), makes("b", 0), appends([]int{1, 3}, []string{"x"}, 0, letter("<1>", "")), appends([]int{1}, []string{"$seen", "y"}, 0, letter("", "<1>"))}
	const boxes = "b1=INBOX below 0 valid 1 next 3 mod 5; b2=a below 0 valid 2 next 1 mod 2; b3=b below 0 valid 3 next 2 mod 4; "
	first, second := `at 0 "Message-Id: <1>\nIn-Reply-To: \n\n" `, `at 0 "Message-Id: \nIn-Reply-To: <1>\n\n" `
	one, two := "m1 of t1 "+first+"[x] [{1 1} {3 1}] mod 4 born 4;", "m2 of t1 "+second+"[$seen y] [{1 2}] mod 5 born 5;"
	for _, r := range []row{
		{three, keeps(1, "z", "x", "z"), 0, 0, "[{6 2 1 2}]", boxes + "m1 of t1 " + first + "[x z] [{1 1} {3 1}] mod 6 born 4; " + two},
		{three, keeps(1), 0, 0, "[{6 2 1 2}]", boxes + "m1 of t1 " + first + "[] [{1 1} {3 1}] mod 6 born 4; " + two},
		{three, keeps(1, "x", "$seen"), 0, 0, "[{6 1 1 2} {6 1 3 2} {6 2 1 2}]",
			"b1=INBOX below 0 valid 1 next 3 mod 6; b2=a below 0 valid 2 next 1 mod 2; b3=b below 0 valid 3 next 2 mod 6; m1 of t1 " + first + "[$seen x] [{1 1} {3 1}] mod 6 born 4; " + two},
		{three, keeps(2, "y"), 0, 0, "[{6 1 1 2} {6 2 2 2}]",
			"b1=INBOX below 0 valid 1 next 3 mod 6; b2=a below 0 valid 2 next 1 mod 2; b3=b below 0 valid 3 next 2 mod 4; " + one + " m2 of t1 " + second + "[y] [{1 2}] mod 6 born 5;"},
		{three, keeps(2, "$seen"), 0, 0, "[{6 2 2 2}]", boxes + one + " m2 of t1 " + second + "[$seen] [{1 2}] mod 6 born 5;"},
		{three, keeps(1, "$seen2", "$sees"), 0, 0, "[{6 2 1 2}]", boxes + "m1 of t1 " + first + "[$seen2 $sees] [{1 1} {3 1}] mod 6 born 4; " + two},
		{three, keeps(2, "y", "$seen", "y"), 0, 0, "", ""},
		{three, keeps(1, "x"), 0, 0, "", ""},
		{three, keeps(3, "X"), 0, api.ErrName, "", ""},
		{three, keeps(0), 0, api.ErrName, "", ""},
		{three, keeps(1, "x", "X"), 0, api.ErrArg, "", ""},
		{three, keeps(1, many(17)...), 0, api.ErrMany, "", ""},

		{three, places(1, 2, 3, 2), 0, 0, "[{6 1 1 2} {6 1 2 2} {6 2 1 2}]",
			"b1=INBOX below 0 valid 1 next 3 mod 6; b2=a below 0 valid 2 next 2 mod 6; b3=b below 0 valid 3 next 2 mod 4; m1 of t1 " + first + "[x] [{2 1} {3 1}] mod 6 born 4; " + two},
		{three, places(1, 1), 0, 0, "[{6 1 3 2} {6 2 1 2}]",
			"b1=INBOX below 0 valid 1 next 3 mod 5; b2=a below 0 valid 2 next 1 mod 2; b3=b below 0 valid 3 next 2 mod 6; m1 of t1 " + first + "[x] [{1 1}] mod 6 born 4; " + two},
		{three, places(2, 3, 2, 1), 0, 0, "[{6 1 2 2} {6 1 3 2} {6 2 2 2}]",
			"b1=INBOX below 0 valid 1 next 3 mod 5; b2=a below 0 valid 2 next 2 mod 6; b3=b below 0 valid 3 next 3 mod 6; " + one + " m2 of t1 " + second + "[$seen y] [{1 2} {2 1} {3 2}] mod 6 born 5;"},
		{append(slices.Clone(three), places(1, 3)), places(1, 3, 1), 0, 0, "[{7 1 1 2} {7 2 1 2}]", // another Uid than it had
			"b1=INBOX below 0 valid 1 next 4 mod 7; b2=a below 0 valid 2 next 1 mod 2; b3=b below 0 valid 3 next 2 mod 4; m1 of t1 " + first + "[x] [{1 3} {3 1}] mod 7 born 4; " + two},
		{three, places(1, 3, 1, 3), 0, 0, "", ""},
		{three, places(3), 0, api.ErrName, "", ""},
		{three, places(1), 0, api.ErrArg, "", ""},
		{three, places(1, 1, 4), 0, api.ErrName, "", ""},
		{three, places(1, 0), 0, api.ErrName, "", ""},

		{three, destroys(1), 0, 0, "[{6 1 1 2} {6 1 3 2} {6 2 1 3} {6 3 1 2}]",
			"b1=INBOX below 0 valid 1 next 3 mod 6; b2=a below 0 valid 2 next 1 mod 2; b3=b below 0 valid 3 next 2 mod 6; " + two},
		{three, destroys(2), 0, 0, "[{6 1 1 2} {6 2 2 3} {6 3 1 2}]",
			"b1=INBOX below 0 valid 1 next 3 mod 6; b2=a below 0 valid 2 next 1 mod 2; b3=b below 0 valid 3 next 2 mod 4; " + one},
		{append(slices.Clone(three), destroys(1)), destroys(2), 0, 0, "[{7 1 1 2} {7 2 2 3} {7 3 1 3}]",
			"b1=INBOX below 0 valid 1 next 3 mod 7; b2=a below 0 valid 2 next 1 mod 2; b3=b below 0 valid 3 next 2 mod 6;"},
		{append(slices.Clone(three), destroys(1), destroys(2)), appends([]int{3}, nil, 0, ""), 3, 0, "[{8 1 3 2} {8 2 3 1} {8 3 3 1}]",
			"b3=b below 0 valid 3 next 3 mod 8; m3 of t3 at 0 \"\" [] [{3 2}] mod 8 born 8;"},
		{append(slices.Clone(three), destroys(1)), destroys(1), 0, api.ErrName, "", ""},
		{three, destroys(-1), 0, api.ErrName, "", ""},
		{three, destroys(3), 0, api.ErrName, "", ""},
	} {
		holdRow(t, small(), r)
	}
}

// 18.2: the last number of a mailbox is given, and then no more, in whichever call asks for one; others go on.
func TestLastNumber(t *testing.T) {
	for most := range 5 {
		c := wide()
		c.MaxUid = most + 1
		s := storeOf(t, c, makes("a", 0), makes("b", 0))
		for i := range most + 1 {
			if id, err := s.Append([]int{2}, nil, 0, ""); id != i+1 || err != api.OK {
				t.Fatalf("MaxUid %d: the email %d: %d, %d", most+1, i, id, err)
			}
		}
		if s.Boxes()[1].Next != most+2 {
			t.Fatalf("MaxUid %d: Next %d", most+1, s.Boxes()[1].Next)
		}
		before := told(s)
		for _, call := range []call{appends([]int{2}, nil, 0, ""), appends([]int{1, 2, 3}, nil, 0, "")} {
			if id, err := call.on(s); id != 0 || err != api.ErrEnd || told(s) != before {
				t.Errorf("MaxUid %d: %s tells %d, %d", most+1, brief(call), id, err)
			}
		}
		if id, err := s.Append([]int{1, 3}, nil, 0, ""); id != most+2 || err != api.OK {
			t.Fatalf("MaxUid %d: elsewhere %d, %d", most+1, id, err)
		}
		stays := storeOf(t, c, makes("a", 0), appends([]int{2}, nil, 0, ""))
		for range most {
			stays.Append([]int{2}, nil, 0, "")
		}
		for _, step := range []struct {
			call call
			err  api.Errno
		}{{places(1, 2), api.OK}, {places(1, 2, 1), api.OK}, {places(1, 1), api.OK}, {places(1, 2), api.ErrEnd}, {places(1, 1, 2), api.ErrEnd}, {places(1, 9), api.ErrName}, {keeps(1, "x"), api.OK}, {destroys(1), api.OK}} {
			if _, err := step.call.on(stays); err != step.err {
				t.Errorf("MaxUid %d: %s: %d, want %d", most+1, brief(step.call), err, step.err)
			}
		}
	}
}

// 18.2: the last step is done, and then no more; what changes nothing still is no error, what is wrong is told.
func TestLastStep(t *testing.T) {
	for most := 4; most < 8; most++ {
		c := small()
		c.MaxMod = most
		s := storeOf(t, c, makes("a", 0), makes("b", 0), appends([]int{1}, []string{"x"}, 0, ""))
		for i := 4; i < most; i++ {
			if err := s.Keys(1, []string{fmt.Sprint("x", i)}); err != api.OK {
				t.Fatalf("MaxMod %d: %d", most, err)
			}
		}
		before := told(s)
		for _, step := range []struct {
			call call
			err  api.Errno
		}{
			{makes("c", 0), api.ErrEnd}, {makes("a", 0), api.ErrTwice}, {makes("c", 9), api.ErrName},
			{renames(2, "c", 0), api.ErrEnd}, {renames(2, "a", 3), api.ErrEnd}, {renames(2, "a", 0), api.OK}, {renames(2, "a", 2), api.ErrBusy},
			{drops(2), api.ErrEnd}, {drops(1), api.ErrArg}, {drops(9), api.ErrName},
			{appends([]int{2}, nil, 0, ""), api.ErrEnd}, {appends([]int{2}, nil, 0, strings.Repeat("x", 100)), api.ErrFull},
			{keeps(1, "y"), api.ErrEnd}, {keeps(1, s.Mails()[0].Keys...), api.OK}, {keeps(1, "Y"), api.ErrArg},
			{places(1, 2), api.ErrEnd}, {places(1, 1, 1), api.OK}, {places(1), api.ErrArg},
			{destroys(1), api.ErrEnd}, {destroys(2), api.ErrName},
		} {
			if id, err := step.call.on(s); id != 0 || err != step.err || told(s) != before {
				t.Errorf("MaxMod %d: %s tells %d, %d, want %d", most, brief(step.call), id, err, step.err)
			}
		}
	}
	c := small()
	c.MaxMod = 1
	if id, err := storeOf(t, c).Make("a", 0); id != 0 || err != api.ErrEnd {
		t.Errorf("MaxMod 1: Make tells %d, %d", id, err)
	}
}

// 18.2: the log has the last MaxLog Entries, and those of one step may be cut in two.
func TestMaxLog(t *testing.T) {
	for most := range 9 {
		c := small()
		c.MaxLog = most + 1
		s := storeOf(t, c, makes("a", 0), appends([]int{1, 2}, nil, 0, ""), destroys(1))
		all := []api.Entry{{Mod: 2, Kind: 1, Id: 2, How: 1},
			{Mod: 3, Kind: 1, Id: 1, How: 2}, {Mod: 3, Kind: 1, Id: 2, How: 2}, {Mod: 3, Kind: 2, Id: 1, How: 1}, {Mod: 3, Kind: 3, Id: 1, How: 1},
			{Mod: 4, Kind: 1, Id: 1, How: 2}, {Mod: 4, Kind: 1, Id: 2, How: 2}, {Mod: 4, Kind: 2, Id: 1, How: 3}, {Mod: 4, Kind: 3, Id: 1, How: 3}}
		if got := s.Log().All(); !slices.Equal(got, all[len(all)-most-1:]) {
			t.Errorf("MaxLog %d: %v", most+1, got)
		}
	}
}

// 18.2: Log tells a copy.
func TestLog(t *testing.T) {
	s := storeOf(t, small(), makes("a", 0))
	l, other := s.Log(), s.Log()
	l.Add([]api.Entry{{Mod: 9, Kind: 1, Id: 9, How: 1}})
	l.All()[0].Id = 9
	s.Make("b", 0)
	if got := fmt.Sprint(l.All(), other.All(), s.Log().All()); got != "[{2 1 2 1} {9 1 9 1}] [{2 1 2 1}] [{2 1 2 1} {3 1 3 1}]" {
		t.Errorf("logs are %s", got)
	}
}

// R3: what is handed in is neither changed nor kept.
func TestNothingKept(t *testing.T) {
	bytes := func(s string) string { return string([]byte(s)) }
	c := small()
	c.User, c.Pass = bytes("user"), bytes("pass")
	name, other, text, key := bytes("aa"), bytes("bb"), bytes("Message-Id: <1>\n\n"), bytes("xx")
	boxes, keys := []int{2, 1, 2, 77}, []string{key, "$seen", key, "spare"}
	s := storeOf(t, c, makes(name, 0), makes("c", 0), renames(3, other, 0), appends(boxes[:3], keys[:3], 0, text), appends([]int{1}, nil, 0, ""))
	s.Place(2, boxes[:3])
	s.Keys(2, keys[:3])
	if fmt.Sprint(boxes, keys) != "[2 1 2 77] [xx $seen xx spare]" {
		t.Errorf("what is handed in is changed: %v, %v", boxes, keys)
	}
	before := told(s)
	clear(boxes)
	clear(keys)
	if told(s) != before {
		t.Errorf("what is handed in is kept: %s", told(s))
	}
	m := s.Mails()[0]
	for _, both := range [][2]string{{c.User, s.Config().User}, {c.Pass, s.Config().Pass}, {name, s.Boxes()[1].Name}, {other, s.Boxes()[2].Name}, {text, m.Text}, {key, m.Keys[1]}, {key, s.Mails()[1].Keys[1]}} {
		if both[0] != both[1] || unsafe.StringData(both[0]) == unsafe.StringData(both[1]) {
			t.Errorf("%q is kept as it was handed in", both[0])
		}
	}
}

// spoil writes all over what an account told, spare room too.
func spoil(boxes []api.Box, mails []api.Mail) {
	for _, m := range mails[:cap(mails)] {
		for i := range m.Keys[:cap(m.Keys)] {
			m.Keys[:cap(m.Keys)][i] = "spoilt"
		}
		for i := range m.Members[:cap(m.Members)] {
			m.Members[:cap(m.Members)][i] = api.Member{Box: -1, Uid: -1}
		}
	}
	clear(mails[:cap(mails)])
	clear(boxes[:cap(boxes)])
}

// R3: what is told is new memory, and no two lists of it share any.
func TestNewMemory(t *testing.T) {
	for _, ahead := range states {
		s := storeOf(t, small(), ahead...)
		before, all := told(s), fmt.Sprint(s.Mails())
		mails, copied := s.Mails(), s.Copy()
		spoil(s.Boxes(), s.Mails())
		if told(s) != before || fmt.Sprint(mails) != all || told(copied) != before {
			t.Errorf("what was told can be written through: %s, was %s", told(s), before)
		}
		for i := range mails {
			others := fmt.Sprint(mails[:i], mails[i+1:], mails[i].Members)
			for k := range mails[i].Keys[:cap(mails[i].Keys)] {
				mails[i].Keys[:cap(mails[i].Keys)][k] = "spoilt"
			}
			if fmt.Sprint(mails[:i], mails[i+1:], mails[i].Members) != others {
				t.Errorf("two lists of Mails share memory")
			}
			others = fmt.Sprint(mails[:i], mails[i+1:], mails[i].Keys)
			for k := range mails[i].Members[:cap(mails[i].Members)] {
				mails[i].Members[:cap(mails[i].Members)][k].Uid = -1
			}
			if fmt.Sprint(mails[:i], mails[i+1:], mails[i].Keys) != others {
				t.Errorf("two lists of Mails share memory")
			}
		}
		spoil(copied.Boxes(), copied.Mails())
		if told(s) != before || told(copied) != before {
			t.Errorf("what a copy told can be written through")
		}
	}
}

// 18.6, R5: a Copy is the same, goes its own way, and tells the same of the same calls.
func TestCopy(t *testing.T) {
	r := rand.New(rand.NewSource(6))
	for range 300 {
		config := anyConfig(r)
		a, s := accountOf(config), storeOf(t, config)
		for range r.Intn(40) {
			c := anyCall(r, a)
			a, _, _ = a.after(c)
			c.on(s)
		}
		before := told(s)
		one, other := s.Copy(), s.Copy()
		if one == s || one.Config() != config || told(one) != before {
			t.Fatalf("a copy is %s, want %s", brief(told(one)), brief(before))
		}
		var calls []call
		for range 40 {
			c := anyCall(r, a)
			a, _, _ = a.after(c)
			c.on(one)
			calls = append(calls, c)
		}
		if told(one) != a.told() || told(s) != before || told(other) != before {
			t.Fatalf("what is done to a copy is done to another one")
		}
		for _, c := range calls {
			c.on(s)
		}
		if told(s) != told(one) || told(other) != before {
			t.Fatalf("a copy went another way: %s, want %s", brief(told(one)), brief(told(s)))
		}
	}
}

// 18.6: methods of nil; and R1: none panics of a Store that New did not make.
func TestNone(t *testing.T) {
	var none *Store
	eachCall(func(c call) {
		if id, err := c.on(none); id != 0 || err != api.ErrNone {
			t.Fatalf("of nil %s tells %d, %d", brief(c), id, err)
		}
	})
	if none.Config() != (api.Config{}) || none.Clock() != 0 || none.Boxes() != nil || none.Mails() != nil || none.Log() != nil || none.Copy() != nil {
		t.Errorf("nil tells more than zero values")
	}
	var empty Store
	eachCall(func(c call) {
		if id, err := c.on(&empty); id != 0 || err == api.OK {
			t.Fatalf("of one without INBOX %s tells %d, %d", brief(c), id, err)
		}
	})
	if told(&empty) != told(empty.Copy()) || empty.Config() != (api.Config{}) {
		t.Errorf("of one without INBOX %s", told(&empty))
	}
}

// R1: the same calls tell the same, again and again; asking turns nothing.
func TestSameAgain(t *testing.T) {
	want := ""
	for i := range 50 {
		s := storeOf(t, small(), states[5]...)
		s.Mails()
		s.Log().Since(api.LogBox, 0, 5, 0)
		s.Copy().Destroy(1)
		if got := told(s); i > 0 && got != want {
			t.Fatalf("%s, ahead of it %s", got, want)
		}
		want = told(s)
	}
}

// R1: every call ends, and soon, of great accounts.
func TestGreat(t *testing.T) {
	const n, deep = 20000, 2000
	s := storeOf(t, wide())
	for i := range deep {
		if id, err := s.Make("x", i+1); id != i+2 || err != api.OK {
			t.Fatal(id, err)
		}
	}
	if err := s.Rename(2, "y", deep); err != api.ErrBusy {
		t.Errorf("a mailbox came below itself: %d", err)
	}
	if err := s.Rename(deep, "y", 2); err != api.OK {
		t.Errorf("a mailbox is held below others: %d", err)
	}
	for i := range n {
		text := letter(fmt.Sprintf("<%d>", i), fmt.Sprintf("<%d>", i-1))
		if id, err := s.Append([]int{1, 4 + i%9}, nil, i, text); id != i+1 || err != api.OK {
			t.Fatal(id, err)
		}
	}
	for id := 1; id <= n; id++ {
		if s.Keys(id, []string{"$seen"}) != api.OK || s.Place(id, []int{3}) != api.OK || id%2 == 0 && s.Destroy(id) != api.OK {
			t.Fatal(id)
		}
	}
	mails := s.Copy().Mails()
	if len(mails) != n/2 || mails[n/2-1].Thread != 1 || s.Clock() != 1+deep+1+n+n+n+n/2 {
		t.Errorf("%d emails, the last of the thread %d, clock %d", len(mails), mails[n/2-1].Thread, s.Clock())
	}
	text := strings.Repeat("Subject: x\n y\n", 1<<20)
	if id, err := s.Append([]int{1}, nil, 0, text); id != n+1 || err != api.OK || s.Mails()[n/2].Text != text {
		t.Errorf("a great text: %d, %d", id, err)
	}
}

// sources is the files of the package, without its tests.
func sources(t *testing.T) []*ast.File {
	t.Helper()
	names, err := os.ReadDir(".")
	if err != nil {
		t.Fatal(err)
	}
	var files []*ast.File
	for _, each := range names {
		if name := each.Name(); strings.HasSuffix(name, ".go") && !strings.HasSuffix(name, "_test.go") {
			file, err := parser.ParseFile(token.NewFileSet(), name, nil, 0)
			if err != nil {
				t.Fatal(err)
			}
			files = append(files, file)
		}
	}
	return files
}

// selects tells whether an expression is something's part of that name.
func selects(e ast.Expr, name string) bool {
	s, ok := e.(*ast.SelectorExpr)
	return ok && s.Sel.Name == name
}

// The chapter's way: steps are counted by one atomic add, and the log gets what a full slice expression cut.
func TestWay(t *testing.T) {
	atomics, steps, given := 0, 0, 0
	look := func(n ast.Node) bool {
		if f, ok := n.(*ast.Field); ok {
			if s, ok := f.Type.(*ast.SelectorExpr); ok && fmt.Sprint(s.X) == "atomic" && f.Names[0].Name == "clock" {
				atomics++
			}
		}
		c, ok := n.(*ast.CallExpr)
		if !ok || !selects(c.Fun, "Add") {
			return true
		}
		of := c.Fun.(*ast.SelectorExpr).X
		if one, ok := c.Args[0].(*ast.BasicLit); selects(of, "clock") && ok && one.Value == "1" {
			steps++
		}
		if cut, ok := c.Args[0].(*ast.SliceExpr); selects(of, "log") && ok && cut.Slice3 && selects(cut.X, "entries") {
			given++
		} else if selects(of, "log") {
			t.Errorf("the log gets Entries that are not cut")
		}
		return true
	}
	for _, file := range sources(t) {
		ast.Inspect(file, look)
	}
	if atomics != 1 || steps != 1 || given != 1 {
		t.Errorf("%d atomic clocks, %d atomic adds, %d cut lists of Entries", atomics, steps, given)
	}
}
