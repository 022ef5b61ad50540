package date

import (
	"go/ast"
	"go/parser"
	"go/token"
	"regexp"
	"strconv"
	"strings"
	"testing"
	"time"

	"pillarbox/api"
)

const dayLength = 86400

// told are seconds, and what is told of them.
var told = []struct {
	n         int
	civil     [6]int
	imap, rfc string
}{
	{0, [6]int{1970, 1, 1, 0, 0, 0}, " 1-Jan-1970 00:00:00 +0000", "1970-01-01T00:00:00Z"}, // the chapter's example
	{1, [6]int{1970, 1, 1, 0, 0, 1}, " 1-Jan-1970 00:00:01 +0000", "1970-01-01T00:00:01Z"},
	{59, [6]int{1970, 1, 1, 0, 0, 59}, " 1-Jan-1970 00:00:59 +0000", "1970-01-01T00:00:59Z"},
	{60, [6]int{1970, 1, 1, 0, 1, 0}, " 1-Jan-1970 00:01:00 +0000", "1970-01-01T00:01:00Z"},
	{3599, [6]int{1970, 1, 1, 0, 59, 59}, " 1-Jan-1970 00:59:59 +0000", "1970-01-01T00:59:59Z"},
	{3600, [6]int{1970, 1, 1, 1, 0, 0}, " 1-Jan-1970 01:00:00 +0000", "1970-01-01T01:00:00Z"},
	{86399, [6]int{1970, 1, 1, 23, 59, 59}, " 1-Jan-1970 23:59:59 +0000", "1970-01-01T23:59:59Z"},
	{86400, [6]int{1970, 1, 2, 0, 0, 0}, " 2-Jan-1970 00:00:00 +0000", "1970-01-02T00:00:00Z"},
	{8 * 86400, [6]int{1970, 1, 9, 0, 0, 0}, " 9-Jan-1970 00:00:00 +0000", "1970-01-09T00:00:00Z"},
	{9 * 86400, [6]int{1970, 1, 10, 0, 0, 0}, "10-Jan-1970 00:00:00 +0000", "1970-01-10T00:00:00Z"},
	{31*86400 - 1, [6]int{1970, 1, 31, 23, 59, 59}, "31-Jan-1970 23:59:59 +0000", "1970-01-31T23:59:59Z"},
	{31 * 86400, [6]int{1970, 2, 1, 0, 0, 0}, " 1-Feb-1970 00:00:00 +0000", "1970-02-01T00:00:00Z"},
	{365*86400 - 1, [6]int{1970, 12, 31, 23, 59, 59}, "31-Dec-1970 23:59:59 +0000", "1970-12-31T23:59:59Z"},
	{365 * 86400, [6]int{1971, 1, 1, 0, 0, 0}, " 1-Jan-1971 00:00:00 +0000", "1971-01-01T00:00:00Z"},
	{68169600, [6]int{1972, 2, 29, 0, 0, 0}, "29-Feb-1972 00:00:00 +0000", "1972-02-29T00:00:00Z"},
	{837504445, [6]int{1996, 7, 16, 8, 7, 25}, "16-Jul-1996 08:07:25 +0000", "1996-07-16T08:07:25Z"},
	{951827696, [6]int{2000, 2, 29, 12, 34, 56}, "29-Feb-2000 12:34:56 +0000", "2000-02-29T12:34:56Z"},
	{1700000000, [6]int{2023, 11, 14, 22, 13, 20}, "14-Nov-2023 22:13:20 +0000", "2023-11-14T22:13:20Z"},
	{4107542399, [6]int{2100, 2, 28, 23, 59, 59}, "28-Feb-2100 23:59:59 +0000", "2100-02-28T23:59:59Z"}, // no leap year
	{4107542400, [6]int{2100, 3, 1, 0, 0, 0}, " 1-Mar-2100 00:00:00 +0000", "2100-03-01T00:00:00Z"},
	{api.MaxTime - 1, [6]int{9999, 12, 31, 23, 59, 58}, "31-Dec-9999 23:59:58 +0000", "9999-12-31T23:59:58Z"},
	{api.MaxTime, [6]int{9999, 12, 31, 23, 59, 59}, "31-Dec-9999 23:59:59 +0000", "9999-12-31T23:59:59Z"},
	// Below 0 it counts as 0, above MaxTime as that.
	{-1, [6]int{1970, 1, 1, 0, 0, 0}, " 1-Jan-1970 00:00:00 +0000", "1970-01-01T00:00:00Z"},
	{-86401, [6]int{1970, 1, 1, 0, 0, 0}, " 1-Jan-1970 00:00:00 +0000", "1970-01-01T00:00:00Z"},
	{-1 << 63, [6]int{1970, 1, 1, 0, 0, 0}, " 1-Jan-1970 00:00:00 +0000", "1970-01-01T00:00:00Z"},
	{api.MaxTime + 1, [6]int{9999, 12, 31, 23, 59, 59}, "31-Dec-9999 23:59:59 +0000", "9999-12-31T23:59:59Z"},
	{api.MaxTime + 86400, [6]int{9999, 12, 31, 23, 59, 59}, "31-Dec-9999 23:59:59 +0000", "9999-12-31T23:59:59Z"},
	{1<<63 - 1, [6]int{9999, 12, 31, 23, 59, 59}, "31-Dec-9999 23:59:59 +0000", "9999-12-31T23:59:59Z"},
}

// civil is Civil in one value.
func civil(n int) [6]int {
	year, month, day, hour, minute, second := Civil(n)
	return [6]int{year, month, day, hour, minute, second}
}

// wantCivil is what the library says of n.
func wantCivil(n int) [6]int {
	at := time.Unix(int64(n), 0).UTC()
	year, month, day := at.Date()
	hour, minute, second := at.Clock()
	return [6]int{year, int(month), day, hour, minute, second}
}

// 6.1
func TestCivil(t *testing.T) {
	for _, c := range told {
		if got := civil(c.n); got != c.civil {
			t.Errorf("Civil(%d) = %v, want %v", c.n, got, c.civil)
		}
	}
}

// 6.1
func TestImap(t *testing.T) {
	for _, c := range told {
		if got := Imap(c.n); got != c.imap {
			t.Errorf("Imap(%d) = %q, want %q", c.n, got, c.imap)
		}
	}
}

// 6.1
func TestRfc(t *testing.T) {
	for _, c := range told {
		if got := Rfc(c.n); got != c.rfc {
			t.Errorf("Rfc(%d) = %q, want %q", c.n, got, c.rfc)
		}
	}
}

// 6.1: each day there is, by both its ends.
func TestCivilOfEachDay(t *testing.T) {
	for n := 0; n <= api.MaxTime; n += dayLength {
		if got, want := civil(n), wantCivil(n); got != want {
			t.Fatalf("Civil(%d) = %v, want %v", n, got, want)
		}
		if got, want := civil(n+dayLength-1), wantCivil(n+dayLength-1); got != want {
			t.Fatalf("Civil(%d) = %v, want %v", n+dayLength-1, got, want)
		}
	}
}

// 6.1: each second of a day.
func TestCivilOfEachSecond(t *testing.T) {
	const from = 951782400
	for n := from; n < from+dayLength; n++ {
		if got, want := civil(n), wantCivil(n); got != want {
			t.Fatalf("Civil(%d) = %v, want %v", n, got, want)
		}
	}
}

// 6.1 and 6.3: texts of seconds of all the time there is, read back.
func TestTextsOfAllTime(t *testing.T) {
	const step = dayLength*5 + 3600*7 + 60*11 + 13
	for n := 0; n <= api.MaxTime; n += step {
		at := time.Unix(int64(n), 0).UTC()
		holdTold(t, n, at)
		holdDay(t, n-n%dayLength, at)
	}
}

// 6.1 and 6.3: each second of a day, and each day of a round of leap years.
func TestTextsOfSecondsAndDays(t *testing.T) {
	const from = 4107456000 // around the end of February 2100
	for n := from; n < from+dayLength; n++ {
		holdTold(t, n, time.Unix(int64(n), 0).UTC())
	}
	for n := 0; n < 146097*dayLength; n += dayLength {
		at := time.Unix(int64(n), 0).UTC()
		holdTold(t, n, at)
		holdDay(t, n, at)
	}
}

// holdTold holds the texts of n, which is at, against the library, and reads them.
func holdTold(t *testing.T, n int, at time.Time) {
	t.Helper()
	imap, rfc := Imap(n), Rfc(n)
	if want := at.Format("_2-Jan-2006 15:04:05 -0700"); imap != want {
		t.Fatalf("Imap(%d) = %q, want %q", n, imap, want)
	}
	if want := at.Format(time.RFC3339); rfc != want {
		t.Fatalf("Rfc(%d) = %q, want %q", n, rfc, want)
	}
	holdRead(t, "ReadImap", ReadImap, imap, n)
	holdRead(t, "ReadRfc", ReadRfc, rfc, n)
}

// holdDay reads the texts of the day whose first second is n, and which at lies in.
func holdDay(t *testing.T, n int, at time.Time) {
	t.Helper()
	holdRead(t, "ReadDay", ReadDay, at.Format("2-Jan-2006"), n)
	holdRead(t, "ReadDay", ReadDay, at.Format("02-Jan-2006"), n)
}

// holdRead holds one call of a reader: want is the second, or below 0 where s tells none.
func holdRead(t *testing.T, name string, read func(string) (int, api.Errno), s string, want int) {
	t.Helper()
	wantErr := api.OK
	if want < 0 {
		want, wantErr = 0, api.ErrForm
	}
	if n, e := read(s); n != want || e != wantErr {
		t.Fatalf("%s(%q) = %d, %d, want %d, %d", name, s, n, e, want, wantErr)
	}
}

const none = -1 // second is told

// 6.2 and 6.3
func TestReadImap(t *testing.T) {
	for _, c := range told {
		holdRead(t, "ReadImap", ReadImap, c.imap, min(max(c.n, 0), api.MaxTime))
	}
	for _, c := range []struct {
		s    string
		want int
	}{
		{" 1-Jan-1970 00:00:00 +0000", 0},
		{"01-Jan-1970 00:00:00 +0000", 0}, // a nought ahead
		{"09-Jan-1970 00:00:00 +0000", 8 * dayLength},
		{" 1-jan-1970 00:00:00 +0000", 0}, // any size of letters
		{" 1-JAN-1970 00:00:00 +0000", 0},
		{" 1-jAN-1970 00:00:00 +0000", 0},
		{" 1-Jan-1970 00:00:00 -0000", 0},
		{" 1-Jan-1970 01:00:00 +0100", 0}, // a zone ahead is taken away
		{" 1-Jan-1970 00:00:00 -0100", 3600},
		{" 1-Jan-1970 00:00:00 -0001", 60},
		{" 1-Jan-1970 00:00:00 -2359", 86340},
		{" 1-Jan-1970 23:59:00 +2359", 0},
		{"29-Feb-2000 12:34:56 +0130", 951827696 - 5400},
		{"29-Feb-2000 12:34:56 -0959", 951827696 + 35940},
		{"16-Jul-1996 02:07:25 -0600", 837504445},
		{" 1-Jan-1970 00:00:00 +0001", none}, // below 0
		{" 1-Jan-1970 00:59:59 +0100", none},
		{"31-Dec-1969 23:59:59 +0000", none},
		{"31-Dec-1969 23:59:59 -0001", 59}, // below 0 without the zone only
		{"31-Dec-1969 00:01:00 -2359", 0},
		{"31-Dec-1969 00:00:59 -2359", none},
		{"30-Dec-1969 23:59:59 -2359", none},
		{"31-Dec-9999 23:59:59 +0000", api.MaxTime},
		{"31-Dec-9999 23:59:59 +0001", api.MaxTime - 60},
		{"31-Dec-9999 23:59:59 -0001", none}, // above MaxTime
		{"31-Dec-9999 23:58:59 -0001", api.MaxTime},
		{"31-Dec-9999 23:59:00 -0001", none},
		{" 1-Jan-0000 00:00:00 +0000", none},
		{"29-Feb-0000 00:00:00 +0000", none},
		{" 1-Jan-0001 00:00:00 -2359", none},
		{"29-Feb-2001 00:00:00 +0000", none}, // dates that there are not
		{"29-Feb-2100 00:00:00 +0000", none},
		{"30-Feb-2000 00:00:00 +0000", none},
		{"31-Apr-1970 00:00:00 +0000", none},
		{"32-Jan-1970 00:00:00 +0000", none},
		{" 0-Jan-1970 00:00:00 +0000", none},
		{"00-Jan-1970 00:00:00 +0000", none},
		{"99-Dec-9999 00:00:00 +0000", none},
		{" 1-Foo-1970 00:00:00 +0000", none},
		{" 1-anF-1970 00:00:00 +0000", none}, // within the months' names, but none
		{" 1-nFe-1970 00:00:00 +0000", none},
		{" 1-   -1970 00:00:00 +0000", none},
		{" 1-001-1970 00:00:00 +0000", none},
		{" 1-\u017fp-1970 00:00:00 +0000", none}, // a long s is no s
		{" 1-Jan-1970 24:00:00 +0000", none},
		{" 1-Jan-1970 23:60:00 +0000", none},
		{" 1-Jan-1970 23:59:60 +0000", none}, // no leap seconds
		{" 1-Jan-1970 99:99:99 +0000", none},
		{" 2-Jan-1970 00:00:00 +2400", none},
		{" 2-Jan-1970 00:00:00 +0060", none},
		{" 2-Jan-1970 00:00:00 -2400", none},
		{" 2-Jan-1970 00:00:00 -0060", none},
		{" 2-Jan-1970 00:00:00  0000", none},
		{" 2-Jan-1970 00:00:00 00000", none},
		{" 2-Jan-1970 00:00:00 0000", none},
		{" 2-Jan-1970 00:00:00 +000", none},
		{" 2-Jan-1970 00:00:00 +00000", none},
		{" 2-Jan-1970 00:00:00 +00:00", none},
		{" 2-Jan-1970 00:00:00 GMT  ", none},
		{" 2-Jan-1970 00:00:00 Z", none},
		{" 2-Jan-1970 00:00:00", none},
		{" 2-Jan-1970", none},
		{"2-Jan-1970 00:00:00 +0000", none}, // one digit alone
		{"2-Jan-1970 00:00:00 +0000 ", none},
		{" 02-Jan-1970 00:00:00 +0000", none},
		{"  2-Jan-1970 00:00:00 +0000", none},
		{" 12-Jan-1970 00:00:00 +000", none},
		{" 12-Jan-197 00:00:00 +0000", none},
		{"2 -Jan-1970 00:00:00 +0000", none},
		{"  -Jan-1970 00:00:00 +0000", none},
		{"\t2-Jan-1970 00:00:00 +0000", none},
		{"-2-Jan-1970 00:00:00 +0000", none},
		{"+2-Jan-1970 00:00:00 +0000", none},
		{" 2 Jan 1970 00:00:00 +0000", none},
		{" 2-Jan-1970T00:00:00 +0000", none},
		{" 2-Jan-1970 00-00-00 +0000", none},
		{" 2-Jan-1970 00:00:00+00000", none},
		{" 2-Jan- 970 00:00:00 +0000", none},
		{" 2-Jan--970 00:00:00 +0000", none},
		{" 2-Jan-1970  0:00:00 +0000", none},
		{" 2-Jan-1970 00:00:00 + 100", none},
		{" 2-Jan-1970 00:00:00 +-100", none},
		{"1970-01-02T00:00:00Z", none},
		{"Fri, 2 Jan 1970 00:00:00 +0000", none},
		{"", none},
		{" ", none},
		{"+0000", none},
		{strings.Repeat(" ", 26), none},
		{strings.Repeat("0", 26), none},
		{strings.Repeat(" 1-Jan-1970 00:00:00 +0000", 2), none},
		{" 1-Jan-1970 00:00:00 +0000\x00", none},
		{strings.Repeat("9", 1<<20), none},
	} {
		holdRead(t, "ReadImap", ReadImap, c.s, c.want)
	}
}

// 6.2 and 6.3
func TestReadRfc(t *testing.T) {
	for _, c := range told {
		holdRead(t, "ReadRfc", ReadRfc, c.rfc, min(max(c.n, 0), api.MaxTime))
	}
	for _, s := range []string{
		"", "Z", "T", "1970", "1970-01-01", "1970-01-01T", "1970-01-01Z", "1970-01-01T00:00Z",
		"1970-01-01T00:00:00", "1970-01-01T00:00:00z", "1970-01-01t00:00:00Z", "1970-01-01 00:00:00Z",
		"1970-01-01T00:00:00+00:00", "1970-01-01T00:00:00+0000", "1970-01-01T00:00:00-00:00",
		"1970-01-01T00:00:00.0Z", "1970-01-01T00:00:00.Z", "1970-01-01T00:00:00ZZ", "1970-01-01T00:00:00Z ",
		" 1970-01-01T00:00:00Z", "1970-01-01T00:00:00Z\x00", "1970-1-1T00:00:00Z", "1970-01-01T0:00:00Z",
		"01970-01-01T00:00:00Z", "970-01-01T00:00:00Z", "70-01-01T00:00:00Z", "+1970-01-01T00:00:00Z",
		"1970/01/01T00:00:00Z", "1970-01-01T00-00-00Z", "19700101T000000Z", "1970-01- 1T00:00:00Z",
		"1969-12-31T23:59:59Z", "1969-12-31T24:00:00Z", "0000-01-01T00:00:00Z", "0000-00-00T00:00:00Z",
		"1970-00-01T00:00:00Z", "1970-13-01T00:00:00Z", "1970-99-01T00:00:00Z", "1970-01-00T00:00:00Z",
		"1970-01-32T00:00:00Z", "1970-04-31T00:00:00Z", "2000-02-30T00:00:00Z", "2001-02-29T00:00:00Z",
		"2100-02-29T00:00:00Z", "1970-02-00T00:00:00Z", "1971-00-01T00:00:00Z", "1970-12-32T00:00:00Z",
		"1970-01-01T24:00:00Z", "1970-01-01T00:60:00Z", "1970-01-01T00:00:60Z", "1970-01-01T99:99:99Z",
		"9999-12-31T23:59:60Z", "9999-12-31T24:00:00Z", "9999-12-32T00:00:00Z", "9999-99-99T99:99:99Z",
		"10000-01-01T00:00:00Z", " 1-Jan-1970 00:00:00 +0000", "1-Jan-1970", "1970-Jan-01T00:00:00Z",
		strings.Repeat("1970-01-01T00:00:00Z", 2), strings.Repeat("9", 1<<20),
	} {
		holdRead(t, "ReadRfc", ReadRfc, s, none)
	}
}

// 6.2 and 6.3
func TestReadDay(t *testing.T) {
	for _, c := range []struct {
		s    string
		want int
	}{
		{"1-Jan-1970", 0},
		{"01-Jan-1970", 0},
		{"2-Jan-1970", dayLength},
		{"02-Jan-1970", dayLength},
		{"9-Jan-1970", 8 * dayLength},
		{"10-Jan-1970", 9 * dayLength},
		{"31-Jan-1970", 30 * dayLength},
		{"1-jan-1970", 0}, // any size of letters
		{"1-JAN-1970", 0},
		{"1-jAn-1970", 0},
		{"29-feb-2000", 951782400},
		{"29-FEB-2000", 951782400},
		{"28-Feb-2100", 4107456000},
		{"1-Mar-2100", 4107542400},
		{"31-Dec-9999", api.MaxTime - dayLength + 1},
		{"31-Dec-1969", none}, // years below 1970
		{"1-Jan-1969", none},
		{"1-Jan-0000", none},
		{"29-Feb-0000", none},
		{"0-Jan-1970", none},
		{"00-Jan-1970", none},
		{"32-Jan-1970", none},
		{"99-Jan-1970", none},
		{"31-Apr-1970", none},
		{"30-Feb-2000", none},
		{"29-Feb-1999", none},
		{"29-Feb-2100", none},
		{"1-Foo-1970", none},
		{"1-anF-1970", none},
		{"1-\u017fp-1970", none},
		{"1--1970", none},
		{"1-J-1970", none},
		{"1-January-1970", none},
		{"1-01-1970", none},
		{"001-Jan-1970", none},
		{" 1-Jan-1970", none}, // no blanks, here
		{"1-Jan-1970 ", none},
		{"1-Jan-1970-", none},
		{"-1-Jan-1970", none},
		{"+1-Jan-1970", none},
		{"-Jan-1970", none},
		{"a-Jan-1970", none},
		{"1a-Jan-1970", none},
		{"a1-Jan-1970", none},
		{"Jan-1970", none},
		{"1-Jan-70", none},
		{"1-Jan-970", none},
		{"1-Jan-01970", none},
		{"1-Jan-19700", none},
		{"10-Jan-970", none},
		{"1-Jan- 970", none},
		{"1-Jan--970", none},
		{"1-Jan", none},
		{"1", none},
		{"1-", none},
		{"-", none},
		{"--", none},
		{"", none},
		{"1 Jan 1970", none},
		{"1/Jan/1970", none},
		{"1-Jan 1970", none},
		{"1 -Jan-1970", none},
		{"\"1-Jan-1970\"", none},
		{"1-Jan-1970 00:00:00 +0000", none},
		{"1970-01-01", none},
		{"1-Jan-1970\x00", none},
		{strings.Repeat("1", 1<<20) + "-Jan-1970", none},
	} {
		holdRead(t, "ReadDay", ReadDay, c.s, c.want)
	}
}

var (
	dayPattern  = regexp.MustCompile(`^([0-9]{1,2})-([A-Za-z]{3})-([0-9]{4})$`)
	imapPattern = regexp.MustCompile(`^([0-9 ][0-9])-([A-Za-z]{3})-([0-9]{4}) ([0-9]{2}:[0-9]{2}:[0-9]{2} [+-][0-9]{4})$`)
	rfcPattern  = regexp.MustCompile(`^[0-9]{4}-[0-9]{2}-[0-9]{2}T[0-9]{2}:[0-9]{2}:[0-9]{2}Z$`)
)

// wantImap is what the library reads of s, where the pattern takes it.
func wantImap(s string) int {
	m := imapPattern.FindStringSubmatch(s)
	if m == nil {
		return none
	}
	hours, _ := strconv.Atoi(m[4][10:12])
	minutes, _ := strconv.Atoi(m[4][12:14])
	if hours > 23 || minutes > 59 {
		return none
	}
	away := hours*3600 + minutes*60
	if m[4][9] == '-' {
		away = -away
	}
	at, err := time.Parse("2-Jan-2006 15:04:05", strings.TrimPrefix(m[1], " ")+"-"+m[2]+"-"+m[3]+" "+m[4][:8])
	return wantWithin(int(at.Unix())-away, err)
}

// wantRfc is what the library reads of s, where the pattern takes it.
func wantRfc(s string) int {
	if !rfcPattern.MatchString(s) {
		return none
	}
	at, err := time.Parse("2006-01-02T15:04:05Z", s)
	return wantWithin(int(at.Unix()), err)
}

// wantDay is what the library reads of s, where the pattern takes it.
func wantDay(s string) int {
	if !dayPattern.MatchString(s) {
		return none
	}
	at, err := time.Parse("2-Jan-2006", s)
	return wantWithin(int(at.Unix()), err)
}

func wantWithin(n int, err error) int {
	if err != nil || n < 0 || n > api.MaxTime {
		return none
	}
	return n
}

// holdReaders holds all that read s against the library.
func holdReaders(t *testing.T, s string) {
	t.Helper()
	holdRead(t, "ReadImap", ReadImap, s, wantImap(s))
	holdRead(t, "ReadRfc", ReadRfc, s, wantRfc(s))
	holdRead(t, "ReadDay", ReadDay, s, wantDay(s))
}

// seeds are texts near which others are tried.
var seeds = []string{
	" 1-Jan-1970 00:00:00 +0000", "29-Feb-2000 23:59:59 -2359", "31-Dec-9999 12:34:56 +0130", "30-sEP-2010 19:29:39 +1000",
	"1970-01-01T00:00:00Z", "2000-02-29T23:59:59Z", "9999-12-31T12:34:56Z", "2010-09-30T19:29:39Z",
	"1-Jan-1970", "29-Feb-2000", "31-Dec-9999", "09-jUN-2010",
}

// 6.2: one byte another one, one more, one less.
func TestReadNearby(t *testing.T) {
	for _, s := range seeds {
		for at := range len(s) + 1 {
			holdReaders(t, s[:at])
			holdReaders(t, s[at:])
			for c := range 256 {
				holdReaders(t, s[:at]+string([]byte{byte(c)})+s[at:])
				if at < len(s) {
					holdReaders(t, s[:at]+string([]byte{byte(c)})+s[at+1:])
				}
			}
			if at < len(s) {
				holdReaders(t, s[:at]+s[at+1:])
			}
		}
	}
}

// 6.2: two bytes out of those that texts of dates are made of.
func TestReadNearbyTwice(t *testing.T) {
	const letters = "0123459 -+:TZaJn"
	for _, s := range seeds {
		b := []byte(s)
		for i := range b {
			for j := range i {
				for k := range len(letters) * len(letters) {
					b[i], b[j] = letters[k%len(letters)], letters[k/len(letters)]
					holdReaders(t, string(b))
				}
				b[j] = s[j]
			}
			b[i] = s[i]
		}
	}
}

// 6.2: each day of two digits of each month of some years, in each form.
func TestReadEachDate(t *testing.T) {
	names := []string{"jan", "Feb", "MAR", "aPR", "maY", "JuN", "jUL", "AUg", "sEp", "ocT", "Nov", "DEC", "", "Ja", "Janu"}
	for _, year := range []string{"0000", "1600", "1900", "1968", "1969", "1970", "1971", "1972", "2000", "2100", "2400", "9996", "9999"} {
		for day := range 100 {
			for month := range 100 {
				dd := strconv.Itoa(day/10) + strconv.Itoa(day%10)
				mm := strconv.Itoa(month/10) + strconv.Itoa(month%10)
				holdReaders(t, year+"-"+mm+"-"+dd+"T01:02:03Z")
				if month >= len(names) {
					continue
				}
				tail := "-" + names[month] + "-" + year
				holdReaders(t, dd+tail)
				holdReaders(t, strconv.Itoa(day)+tail)
				holdReaders(t, dd+tail+" 01:02:03 +0000")
				holdReaders(t, " "+strconv.Itoa(day)+tail+" 23:02:03 -0130")
			}
		}
	}
}

// 6.2: each number of two digits in each place of the clock and of the zone.
func TestReadEachClock(t *testing.T) {
	for i := range 10000 {
		a, b := strconv.Itoa(i/1000)+strconv.Itoa(i/100%10), strconv.Itoa(i/10%10)+strconv.Itoa(i%10)
		holdReaders(t, "02-Jan-1970 "+a+":"+b+":00 +0000")
		holdReaders(t, "02-Jan-1970 00:"+a+":"+b+" +0000")
		holdReaders(t, " 1-Jan-1970 12:34:56 +"+a+b)
		holdReaders(t, "31-Dec-1969 12:34:56 -"+a+b)
		holdReaders(t, "31-Dec-9999 12:34:56 -"+a+b)
		holdReaders(t, "1970-01-02T"+a+":"+b+":00Z")
		holdReaders(t, "1970-01-02T00:"+a+":"+b+"Z")
	}
}

// 6.1's and 6.2's way: no number of the package is a float.
func TestWholeNumbersAlone(t *testing.T) {
	file, err := parser.ParseFile(token.NewFileSet(), "date.go", nil, 0)
	if err != nil {
		t.Fatal(err)
	}
	ast.Inspect(file, func(node ast.Node) bool {
		switch node := node.(type) {
		case *ast.ImportSpec:
			if node.Path.Value == `"math"` {
				t.Error("math is imported")
			}
		case *ast.BasicLit:
			if node.Kind == token.FLOAT || node.Kind == token.IMAG {
				t.Errorf("%s is no whole number", node.Value)
			}
		case *ast.Ident:
			if strings.HasPrefix(node.Name, "float") || strings.HasPrefix(node.Name, "complex") {
				t.Errorf("%s stands in it", node.Name)
			}
		}
		return true
	})
}
