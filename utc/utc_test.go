package utc

import (
	"cmp"
	"math"
	"testing"
	"time"

	"angelus/api"
	"angelus/civil"
	"angelus/leap"
)

const (
	least    = math.MinInt
	greatest = math.MaxInt
	firstDay = -719162
	lastDay  = 2932896
)

// spread tells numbers that look as if drawn, the same ones every time.
type spread uint64

func (s *spread) next() uint64 {
	*s = *s*6364136223846793005 + 1442695040888963407
	return uint64(*s >> 11)
}

// between is one of the numbers from low to high, both meant.
func (s *spread) between(low, high int) int {
	return low + int(s.next()%uint64(high-low+1))
}

// plain is what a table tells, and what a second is by it, by the library's calendar, which knows no leaps.
type plain struct {
	start, ahead, end int
	leaps             []leap.Leap
}

// table fails, if there is none.
func (p plain) table(t testing.TB) *leap.Table {
	t.Helper()
	r, code := leap.Make(p.start, p.ahead, p.end, p.leaps...)
	if code != api.OK {
		t.Fatalf("%v: %d", p, code)
	}
	return r
}

// second is one of a date.
func second(year, month, day, hour, min, sec int) Utc {
	return Utc{Date: civil.Date{Year: year, Month: month, Day: day}, Hour: hour, Min: min, Sec: sec}
}

// counted is the second of a day, by the library, that is so many of them behind the first one of 1970, without leaps.
func counted(seconds int) Utc {
	l := time.Unix(int64(seconds), 0).UTC()
	return second(l.Year(), int(l.Month()), l.Day(), l.Hour(), l.Minute(), l.Second())
}

// back is so many seconds as counted tells a second of, or, of a 60th one, of the one behind it.
func (u Utc) back() int {
	return int(time.Date(u.Year, time.Month(u.Month), u.Day, u.Hour, u.Min, u.Sec, 0, time.UTC).Unix())
}

// of is what Of is to answer: between two leaps TAI is ahead by the same.
func (p plain) of(tai int) (Utc, api.Errno) {
	if tai < 86400*p.start+p.ahead {
		return Utc{}, api.ErrPast
	}
	ahead := p.ahead
	for _, l := range p.leaps {
		midnight := 86400*(l.Day+1) + ahead
		switch {
		case l.Step == 1 && tai == midnight:
			u := counted(86400 * l.Day)
			u.Hour, u.Min, u.Sec = 23, 59, 60
			return u, api.OK
		case l.Step == 1 && tai < midnight, l.Step == -1 && tai < midnight-1:
			return counted(tai - ahead), api.OK
		}
		ahead += l.Step
	}
	if tai >= 86400*p.end+ahead {
		return Utc{}, api.ErrPast
	}
	return counted(tai - ahead), api.OK
}

// can: whether there may be such a second on some day.
func can(u Utc) bool {
	l := time.Date(u.Year, time.Month(u.Month), u.Day, 0, 0, 0, 0, time.UTC)
	switch {
	case u.Year < 1, u.Year > 9999, u.Month < 1, u.Month > 12, u.Day < 1, u.Day > 31, l.Day() != u.Day:
		return false
	case u.Sec == 60:
		return u.Hour == 23 && u.Min == 59
	}
	return 0 <= u.Hour && u.Hour < 24 && 0 <= u.Min && u.Min < 60 && 0 <= u.Sec && u.Sec < 60
}

// tai is what Tai is to answer.
func (p plain) tai(u Utc) (int, api.Errno) {
	if !can(u) {
		return 0, api.ErrArg
	}
	midnight := second(u.Year, u.Month, u.Day, 0, 0, 0)
	day := midnight.back() / 86400
	if day < p.start || day >= p.end {
		return 0, api.ErrPast
	}
	ahead, step := p.ahead, 0
	for _, l := range p.leaps {
		if l.Day < day {
			ahead += l.Step
		}
		if l.Day == day {
			step = l.Step
		}
	}
	last := u.Hour == 23 && u.Min == 59
	if last && u.Sec == 60 && step != 1 || last && u.Sec == 59 && step == -1 {
		return 0, api.ErrNone
	}
	return u.back() + ahead, api.OK
}

// order tells which of two seconds is later.
func order(a, b Utc) int {
	return cmp.Or(cmp.Compare(a.Year, b.Year), cmp.Compare(a.Month, b.Month), cmp.Compare(a.Day, b.Day), cmp.Compare(a.Hour, b.Hour), cmp.Compare(a.Min, b.Min), cmp.Compare(a.Sec, b.Sec))
}

// isTai fails, unless both ways go as such a table says of a second of TAI.
func (p plain) isTai(t testing.TB, r *leap.Table, tai int) {
	t.Helper()
	want, code := p.of(tai)
	u, e := Of(r, tai)
	if u != want || e != code {
		t.Fatalf("Of(%d) of %v: %v, %d, not %v, %d", tai, p, u, e, want, code)
	}
	if e != api.OK {
		return
	}
	if n, e := Tai(r, u); n != tai || e != api.OK {
		t.Fatalf("Tai(%v) of %v: %d, %d, not %d", u, p, n, e, tai)
	}
}

// isUtc fails, unless both ways go as such a table says of a second of UTC.
func (p plain) isUtc(t testing.TB, r *leap.Table, u Utc) {
	t.Helper()
	want, code := p.tai(u)
	n, e := Tai(r, u)
	if n != want || e != code {
		t.Fatalf("Tai(%v) of %v: %d, %d, not %d, %d", u, p, n, e, want, code)
	}
	if e != api.OK {
		return
	}
	if x, e := Of(r, n); x != u || e != api.OK {
		t.Fatalf("Of(%d) of %v: %v, %d, not %v", n, p, x, e, u)
	}
}

// around are the seconds of a day, and of those beside it, around their ends, as UTC tells them, whether they can be or not.
func around(day int) []Utc {
	var list []Utc
	for d := day - 1; d <= day+2; d++ {
		date := counted(86400 * d)
		if !can(date) {
			continue
		}
		for _, c := range [][3]int{{0, 0, 0}, {0, 0, 1}, {0, 0, 2}, {0, 0, 59}, {0, 0, 60}, {0, 1, 0}, {0, 59, 60}, {12, 34, 56}, {22, 59, 60}, {23, 58, 59}, {23, 58, 60}, {23, 59, 0}, {23, 59, 57}, {23, 59, 58}, {23, 59, 59}, {23, 59, 60}, {23, 59, 61}, {23, 60, 0}, {24, 0, 0}, {0, 0, -1}, {0, -1, 0}, {-1, 0, 0}} {
			date.Hour, date.Min, date.Sec = c[0], c[1], c[2]
			list = append(list, date)
		}
	}
	return list
}

// holds fails, unless all goes as such a table says at its ends, around each leap, and far from it.
func (p plain) holds(t testing.TB) {
	t.Helper()
	r := p.table(t)
	was := r.Text()
	days := []int{p.start, (p.start + p.end) / 2, p.end}
	for _, l := range p.leaps {
		days = append(days, l.Day, l.Day+1)
	}
	for _, day := range days {
		for off := -70; off <= 170; off++ {
			p.isTai(t, r, 86400*day+off)
		}
		for _, off := range []int{-2 * 86400, -86400, -3600, -86400/2 + 1, 86400 / 2, 86399, 86400, 86401, 2 * 86400, 1 << 32, -1 << 32} {
			p.isTai(t, r, 86400*day+p.ahead+off)
		}
		for _, u := range around(day) {
			p.isUtc(t, r, u)
		}
	}
	for _, tai := range []int{least, least + 1, least + 86400, least / 2, -1 << 50, 86400*firstDay - 1, 86400 * firstDay, -1, 0, 1, 86400 * lastDay, 86400*(lastDay+1) + 100, 1 << 50, greatest / 2, greatest - 86400, greatest - 1, greatest} {
		p.isTai(t, r, tai)
	}
	if now := r.Text(); now != was {
		t.Fatalf("%q is %q now", was, now)
	}
}

// row is so many leaps of one Step, or of both (0), from a day on, so many days apart.
func row(first, count, apart, step int) []leap.Leap {
	var list []leap.Leap
	for i := range count {
		l := leap.Leap{Day: first + i*apart, Step: step}
		if step == 0 {
			l.Step = []int{1, -1, -1, 1, 1}[i%5]
		}
		list = append(list, l)
	}
	return list
}

// tables are such of each kind.
func tables() []plain {
	more, less := leap.Leap{Day: 911, Step: 1}, leap.Leap{Day: 911, Step: -1}
	list := []plain{
		{730, 10, 1096, nil}, {730, 0, 731, nil}, {-1, 99, 1, nil}, {-400, 99, -300, nil}, {0, 0, 1, nil},
		{730, 10, 1096, []leap.Leap{more}}, {730, 10, 1096, []leap.Leap{less}}, {911, 10, 912, []leap.Leap{more}}, {911, 10, 912, []leap.Leap{less}},
		{911, 0, 1000, []leap.Leap{more}}, {911, 0, 1000, []leap.Leap{less}}, {911, 99, 1000, []leap.Leap{more}}, {800, 99, 912, []leap.Leap{more}}, {800, 0, 912, []leap.Leap{less}},
		{900, 5, 1000, []leap.Leap{more, {Day: 912, Step: 1}}}, {900, 5, 1000, []leap.Leap{more, {Day: 912, Step: -1}}}, {900, 5, 1000, []leap.Leap{less, {Day: 912, Step: 1}}}, {900, 5, 1000, []leap.Leap{less, {Day: 912, Step: -1}}},
		{900, 5, 914, []leap.Leap{less, {Day: 913, Step: -1}}}, {-3, 1, 3, row(-3, 6, 1, -1)}, {-3, 1, 3, row(-3, 6, 1, 1)}, {-3, 1, 3, row(-3, 6, 1, 0)},
		{firstDay, 0, firstDay + 5, nil}, {firstDay, 99, firstDay + 5, row(firstDay, 5, 1, 1)}, {firstDay, 0, firstDay + 5, row(firstDay, 5, 1, -1)}, {firstDay, 3, firstDay + 1, row(firstDay, 1, 1, 0)},
		{lastDay - 5, 0, lastDay, nil}, {lastDay - 5, 99, lastDay, row(lastDay-5, 5, 1, 1)}, {lastDay - 5, 0, lastDay, row(lastDay-5, 5, 1, -1)}, {lastDay - 1, 3, lastDay, row(lastDay-1, 1, 1, 0)},
		{firstDay, 0, lastDay, nil}, {firstDay, 99, lastDay, nil}, {firstDay, 7, lastDay, row(firstDay, 64, 57000, 0)},
	}
	for _, ahead := range []int{0, 1, 50, 99} {
		for _, step := range []int{1, -1, 0} {
			list = append(list, plain{2000, ahead, 2064, row(2000, 64, 1, step)}, plain{2000, ahead, 9000, row(2500, 64, 91, step)}, plain{-9000, ahead, -2000, row(-9000, 64, 100, step)})
		}
	}
	return list
}

// P22.1, P22.2: tables of each kind, at their ends, around each leap, and far from it.
func TestTables(t *testing.T) {
	for _, p := range tables() {
		p.holds(t)
	}
}

// P22.1, P22.2: all leaps that a table of a few days may have.
func TestAllShortTables(t *testing.T) {
	for _, start := range []int{firstDay, -2, 11014, lastDay - 4} {
		for kind := range 81 {
			var leaps []leap.Leap
			for i, left := 0, kind; i < 4; i, left = i+1, left/3 {
				if left%3 != 0 {
					leaps = append(leaps, leap.Leap{Day: start + i, Step: 2*(left%3) - 3})
				}
			}
			for _, ahead := range []int{0, 1, 2, 37, 99} {
				plain{start, ahead, start + 4, leaps}.holds(t)
			}
		}
	}
}

// P22.1: the seconds around the end of a day, told by hand, of each Step and beside it.
func TestSecondsToldByHand(t *testing.T) {
	r := plain{17164, 36, 17169, []leap.Leap{{Day: 17165, Step: -1}, {Day: 17166, Step: 1}}}.table(t)
	for _, c := range []struct {
		tai  int
		text string
	}{
		{86400*17164 + 36, "2016-12-29T00:00:00Z"}, {86400*17165 + 33, "2016-12-29T23:59:57Z"}, {86400*17165 + 35, "2016-12-29T23:59:59Z"},
		{86400*17165 + 36, "2016-12-30T00:00:00Z"}, {86400*17165 + 37, "2016-12-30T00:00:01Z"}, {86400*17165 + 38, "2016-12-30T00:00:02Z"}, {86400*17165 + 36 + 3661, "2016-12-30T01:01:01Z"},
		{86400*17166 + 33, "2016-12-30T23:59:57Z"}, {86400*17166 + 34, "2016-12-30T23:59:58Z"}, {86400*17166 + 35, "2016-12-31T00:00:00Z"}, {86400*17166 + 36, "2016-12-31T00:00:01Z"}, {86400*17166 + 37, "2016-12-31T00:00:02Z"},
		{86400*17166 + 35 + 43200, "2016-12-31T12:00:00Z"}, {86400*17167 + 32, "2016-12-31T23:59:57Z"}, {86400*17167 + 33, "2016-12-31T23:59:58Z"}, {86400*17167 + 34, "2016-12-31T23:59:59Z"}, {86400*17167 + 35, "2016-12-31T23:59:60Z"},
		{86400*17167 + 36, "2017-01-01T00:00:00Z"}, {86400*17167 + 37, "2017-01-01T00:00:01Z"}, {86400*17167 + 38, "2017-01-01T00:00:02Z"}, {86400*17168 + 35, "2017-01-01T23:59:59Z"}, {86400*17168 + 36, "2017-01-02T00:00:00Z"}, {86400*17169 + 35, "2017-01-02T23:59:59Z"},
	} {
		u, e := Of(r, c.tai)
		if s := u.Text(); s != c.text || e != api.OK {
			t.Errorf("%d: %s, %d, not %s", c.tai, s, e, c.text)
		}
		x, ok := Parse(c.text)
		if n, e := Tai(r, x); n != c.tai || e != api.OK || !ok {
			t.Errorf("%s: %d, %d, not %d", c.text, n, e, c.tai)
		}
	}
	for _, tai := range []int{86400*17164 + 35, 86400 * 17164, 86400*17163 + 36, 86400*17169 + 36, 86400*17169 + 37, 86400*17170 + 36, 0, -1, least, greatest} {
		if u, e := Of(r, tai); u != (Utc{}) || e != api.ErrPast {
			t.Errorf("%d: %v, %d", tai, u, e)
		}
	}
}

// P22.1: the world's leaps, and its seconds of which TAI is widely told.
func TestTheWorldsSeconds(t *testing.T) {
	text := "start 1972-01-01 10\n"
	for _, day := range []string{"1972-06-30", "1972-12-31", "1973-12-31", "1974-12-31", "1975-12-31", "1976-12-31", "1977-12-31", "1978-12-31", "1979-12-31", "1981-06-30", "1982-06-30", "1983-06-30", "1985-06-30", "1987-12-31", "1989-12-31", "1990-12-31", "1992-06-30", "1993-06-30", "1994-06-30", "1995-12-31", "1997-06-30", "1998-12-31", "2005-12-31", "2008-12-31", "2012-06-30", "2015-06-30", "2016-12-31"} {
		text += "leap " + day + " +1\n"
	}
	r, _, code := leap.Parse(text + "end 2027-01-01\n")
	if code != api.OK {
		t.Fatal(code)
	}
	for _, c := range []struct {
		text string
		tai  int
	}{
		{"1972-01-01T00:00:00Z", 63072010}, {"1972-06-30T23:59:59Z", 78796809}, {"1972-06-30T23:59:60Z", 78796810}, {"1972-07-01T00:00:00Z", 78796811}, {"1980-01-06T00:00:00Z", 315964819},
		{"1998-12-31T23:59:60Z", 915148831}, {"1999-01-01T00:00:00Z", 915148832}, {"2000-01-01T00:00:00Z", 946684832}, {"2015-06-30T23:59:60Z", 1435708835}, {"2016-12-31T23:59:60Z", 1483228836}, {"2017-01-01T00:00:00Z", 1483228837}, {"2026-12-31T23:59:59Z", 1798761636},
	} {
		u, ok := Parse(c.text)
		if n, e := Tai(r, u); n != c.tai || e != api.OK || !ok {
			t.Errorf("%s: %d, %d, not %d", c.text, n, e, c.tai)
		}
		if x, e := Of(r, c.tai); x != u || e != api.OK {
			t.Errorf("%d: %v, %d, not %s", c.tai, x, e, c.text)
		}
	}
	for _, tai := range []int{63072009, 1798761637} {
		if u, e := Of(r, tai); u != (Utc{}) || e != api.ErrPast {
			t.Errorf("%d: %v, %d", tai, u, e)
		}
	}
}

// P22.1: the days ahead of start and of end, start, and end, from their first second to their last one.
func TestTheEndsOfTables(t *testing.T) {
	p := plain{730, 10, 1096, nil}
	r := p.table(t)
	for _, c := range []struct {
		u    Utc
		tai  int
		code api.Errno
	}{
		{second(1971, 12, 31, 0, 0, 0), 0, api.ErrPast}, {second(1971, 12, 31, 23, 59, 59), 0, api.ErrPast}, {second(1971, 12, 31, 23, 59, 60), 0, api.ErrPast},
		{second(1972, 1, 1, 0, 0, 0), 63072010, api.OK}, {second(1972, 1, 1, 23, 59, 59), 63072010 + 86399, api.OK}, {second(1972, 1, 1, 23, 59, 60), 0, api.ErrNone},
		{second(1972, 12, 31, 0, 0, 0), 94608010, api.OK}, {second(1972, 12, 31, 23, 59, 59), 94608010 + 86399, api.OK}, {second(1972, 12, 31, 23, 59, 60), 0, api.ErrNone},
		{second(1973, 1, 1, 0, 0, 0), 0, api.ErrPast}, {second(1973, 1, 1, 23, 59, 59), 0, api.ErrPast}, {second(1973, 1, 1, 23, 59, 60), 0, api.ErrPast},
		{second(1, 1, 1, 0, 0, 0), 0, api.ErrPast}, {second(9999, 12, 31, 23, 59, 60), 0, api.ErrPast}, {second(1970, 1, 1, 0, 0, 0), 0, api.ErrPast},
	} {
		if n, e := Tai(r, c.u); n != c.tai || e != c.code {
			t.Errorf("%v: %d, %d, not %d, %d", c.u, n, e, c.tai, c.code)
		}
	}
	// On these days the second 60 is none, since the table that has leaps there ends ahead of them, or begins behind.
	whole := plain{700, 10, 1200, []leap.Leap{{Day: 729, Step: 1}, {Day: 730, Step: 1}, {Day: 1095, Step: 1}, {Day: 1096, Step: -1}}}
	whole.holds(t)
	for _, u := range append(around(730), around(1096)...) {
		p.isUtc(t, r, u)
	}
}

// P22.1: a nil table, beside each other error, and without one.
func TestANilTable(t *testing.T) {
	for _, tai := range []int{least, least + 1, -86400, -1, 0, 1, 63072010, 86400 * lastDay, greatest - 1, greatest} {
		if u, e := Of(nil, tai); u != (Utc{}) || e != api.ErrNil {
			t.Errorf("%d: %v, %d", tai, u, e)
		}
	}
	for _, u := range []Utc{{}, second(1972, 1, 1, 0, 0, 0), second(1970, 1, 1, 0, 0, 0), second(1972, 1, 1, 23, 59, 60), second(1972, 1, 1, 22, 59, 60), second(1972, 13, 1, 0, 0, 0), second(least, least, least, least, least, least), second(greatest, greatest, greatest, greatest, greatest, greatest), second(9999, 12, 31, 23, 59, 60), second(1, 1, 1, 0, 0, 0)} {
		if n, e := Tai(nil, u); n != 0 || e != api.ErrNil {
			t.Errorf("%v: %d, %d", u, n, e)
		}
	}
}

// P22.1: 23:59:60 and 23:59:59, and those of other hours and minutes, on days of each Step.
func TestSecondsThatADayHasNot(t *testing.T) {
	r := plain{910, 10, 914, []leap.Leap{{Day: 911, Step: 1}, {Day: 912, Step: -1}}}.table(t)
	first := 86400 * 910
	for _, c := range []struct {
		u    Utc
		tai  int
		code api.Errno
	}{
		{second(1972, 6, 29, 23, 59, 58), first + 10 + 86398, api.OK}, {second(1972, 6, 29, 23, 59, 59), first + 10 + 86399, api.OK}, {second(1972, 6, 29, 23, 59, 60), 0, api.ErrNone},
		{second(1972, 6, 30, 23, 59, 58), first + 10 + 86400 + 86398, api.OK}, {second(1972, 6, 30, 23, 59, 59), first + 10 + 86400 + 86399, api.OK}, {second(1972, 6, 30, 23, 59, 60), first + 10 + 86400 + 86400, api.OK},
		{second(1972, 7, 1, 23, 59, 58), first + 11 + 2*86400 + 86398, api.OK}, {second(1972, 7, 1, 23, 59, 59), 0, api.ErrNone}, {second(1972, 7, 1, 23, 59, 60), 0, api.ErrNone},
		{second(1972, 7, 1, 22, 59, 59), first + 11 + 2*86400 + 82799, api.OK}, {second(1972, 7, 1, 23, 58, 59), first + 11 + 2*86400 + 86339, api.OK}, {second(1972, 7, 1, 0, 0, 59), first + 11 + 2*86400 + 59, api.OK},
		{second(1972, 7, 2, 0, 0, 0), first + 10 + 3*86400, api.OK}, {second(1972, 7, 2, 23, 59, 59), first + 10 + 3*86400 + 86399, api.OK}, {second(1972, 7, 2, 23, 59, 60), 0, api.ErrNone},
		{second(1972, 6, 28, 23, 59, 60), 0, api.ErrPast}, {second(1972, 7, 3, 23, 59, 60), 0, api.ErrPast},
		{second(1972, 6, 30, 22, 59, 60), 0, api.ErrArg}, {second(1972, 6, 30, 23, 58, 60), 0, api.ErrArg}, {second(1972, 6, 30, 0, 0, 60), 0, api.ErrArg}, {second(1972, 6, 30, 23, 59, 61), 0, api.ErrArg}, {second(1972, 7, 1, 22, 59, 60), 0, api.ErrArg}, {second(1972, 6, 29, 23, 0, 60), 0, api.ErrArg}, {second(1972, 6, 29, 0, 59, 60), 0, api.ErrArg},
		{second(1972, 6, 31, 0, 0, 0), 0, api.ErrArg}, {second(1972, 6, 28, 24, 0, 0), 0, api.ErrArg}, {second(1972, 7, 3, 0, 60, 0), 0, api.ErrArg}, {second(2000, 1, 1, 0, 0, -1), 0, api.ErrArg}, {second(0, 1, 1, 0, 0, 0), 0, api.ErrArg}, {second(10000, 1, 1, 0, 0, 0), 0, api.ErrArg}, {Utc{}, 0, api.ErrArg},
	} {
		if n, e := Tai(r, c.u); n != c.tai || e != c.code {
			t.Errorf("%v: %d, %d, not %d, %d", c.u, n, e, c.tai, c.code)
		}
		if !c.u.Good() != (c.code == api.ErrArg) {
			t.Errorf("%v: %v", c.u, c.u.Good())
		}
	}
}

// edges are numbers at which an hour, a minute or a second begins, or ceases, to be one, those beside them, and the type's ends.
func edges() []int {
	return []int{least, least + 1, -1 << 32, 23 - 1<<32, -60, -2, -1, 0, 1, 12, 22, 23, 24, 25, 30, 58, 59, 60, 61, 62, 99, 100, 255, 256, 1 << 32, 1<<32 + 23, 1<<32 + 59, greatest - 1, greatest}
}

// P22.1: Good, Text and Tai of all hours, minutes and seconds at their edges, on days that can be, and that can't.
func TestWhichCanBe(t *testing.T) {
	p := plain{10950, 32, 11020, []leap.Leap{{Day: 10957, Step: 1}, {Day: 10959, Step: -1}}}
	r := p.table(t)
	for _, d := range [][3]int{{2000, 1, 1}, {2000, 1, 2}, {2000, 1, 3}, {2000, 2, 29}, {1999, 2, 28}, {1, 1, 1}, {9999, 12, 31}, {1900, 2, 29}, {2001, 2, 29}, {0, 1, 1}, {10000, 1, 1}, {2000, 0, 1}, {2000, 13, 1}, {2000, 1, 0}, {2000, 1, 32}, {2000, 4, 31}, {-1, 1, 1}, {2000, -1, 1}, {2000, 1, -1}, {1<<32 + 2000, 1, 1}, {2000, 1<<32 + 1, 1}, {2000, 1, 1<<32 + 1}, {least, 1, 1}, {2000, least, 1}, {2000, 1, least}, {greatest, 1, 1}, {2000, greatest, 1}, {2000, 1, greatest}, {0, 0, 0}} {
		for _, hour := range edges() {
			for _, min := range edges() {
				for _, sec := range edges() {
					u := second(d[0], d[1], d[2], hour, min, sec)
					if u.Good() != can(u) {
						t.Fatalf("%v: %v", u, u.Good())
					}
					if (u.Text() == "") == can(u) {
						t.Fatalf("%v: %q", u, u.Text())
					}
					p.isUtc(t, r, u)
				}
			}
		}
	}
}

// P22.1: Good of each hour, minute and second around those that can be.
func TestGoodOfAllTimes(t *testing.T) {
	for hour := -3; hour < 30; hour++ {
		for min := -3; min < 65; min++ {
			for sec := -3; sec < 65; sec++ {
				u := second(2016, 12, 31, hour, min, sec)
				if u.Good() != can(u) {
					t.Fatalf("%v: %v", u, u.Good())
				}
			}
		}
	}
}

// P22.2: whole days second by second, of each Step, the days' ends among them.
func TestWholeDays(t *testing.T) {
	for _, p := range []plain{
		{911, 10, 917, []leap.Leap{{Day: 912, Step: 1}, {Day: 914, Step: -1}, {Day: 915, Step: 1}}},
		{-2, 0, 2, row(-2, 4, 1, -1)}, {-2, 99, 2, row(-2, 4, 1, 1)}, {firstDay, 0, firstDay + 2, row(firstDay, 2, 1, 0)}, {lastDay - 2, 50, lastDay, row(lastDay-2, 2, 1, 0)},
	} {
		r := p.table(t)
		tai := 86400*p.start + p.ahead
		if _, e := Of(r, tai-1); e != api.ErrPast {
			t.Fatalf("%d: %d", tai-1, e)
		}
		for day := p.start; day < p.end; day++ {
			tai = wholeDay(t, r, day, tai)
		}
		if _, e := Of(r, tai); e != api.ErrPast {
			t.Fatalf("%d: %d", tai, e)
		}
	}
}

// wholeDay fails, unless a day's seconds are those of TAI from one on, in order; it tells the one behind them.
func wholeDay(t *testing.T, r *leap.Table, day, tai int) int {
	t.Helper()
	midnight, u, was := tai, counted(86400*day), Utc{}
	for u.Hour = 0; u.Hour < 24; u.Hour++ {
		for u.Min = 0; u.Min < 60; u.Min++ {
			seconds := 60
			if u.Hour == 23 && u.Min == 59 {
				seconds += r.Step(day)
			}
			for u.Sec = 0; u.Sec < seconds; u.Sec++ {
				if n, e := Tai(r, u); n != tai || e != api.OK {
					t.Fatalf("%v: %d, %d, not %d", u, n, e, tai)
				}
				x, e := Of(r, tai)
				if x != u || e != api.OK {
					t.Fatalf("%d: %v, %d, not %v", tai, x, e, u)
				}
				if order(was, x) >= 0 {
					t.Fatalf("%v isn't behind %v", x, was)
				}
				was, tai = x, tai+1
			}
		}
	}
	if tai-midnight != 86400+r.Step(day) {
		t.Fatalf("%d has %d seconds", day, tai-midnight)
	}
	return tai
}

// P22.2: the first and the last second of days of the whole calendar.
func TestDaysOfTheWholeCalendar(t *testing.T) {
	for _, p := range []plain{{firstDay, 0, lastDay, nil}, {firstDay, 99, lastDay, row(firstDay+100, 64, 57000, 1)}} {
		r := p.table(t)
		for day := firstDay; day < lastDay; day += 13 {
			n, _ := r.Ahead(day)
			p.isTai(t, r, 86400*day+n)
			p.isTai(t, r, 86400*day+n-1)
			p.isTai(t, r, 86400*day+n+86399)
		}
	}
}

// P22.1, P22.2: drawn tables and seconds against a plain reckoning, two tables at a time.
func TestDrawnTables(t *testing.T) {
	s := spread(22)
	draw := func() plain {
		p := plain{start: s.between(firstDay, lastDay-7000), ahead: s.between(0, 99)}
		day := p.start + s.between(0, 3)
		for range s.between(0, 64) {
			p.leaps = append(p.leaps, leap.Leap{Day: day, Step: 2*s.between(0, 1) - 1})
			day += s.between(1, 100)
		}
		p.end = day + s.between(1, 4)
		return p
	}
	other := draw()
	beside := other.table(t)
	for range 400 {
		p := draw()
		r := p.table(t)
		for range 100 {
			tai := 86400*s.between(p.start-2, p.end+2) + s.between(-100, 200)
			p.isTai(t, r, tai)
			other.isTai(t, beside, tai)
			p.isTai(t, r, s.between(86400*p.start, 86400*p.end))
			u := counted(s.between(86400*(p.start-2), 86400*(p.end+2)))
			p.isUtc(t, r, u)
			u.Hour, u.Min, u.Sec = 23, 59, s.between(57, 61)
			p.isUtc(t, r, u)
			other.isUtc(t, beside, u)
		}
		for _, l := range p.leaps {
			u := counted(86400 * l.Day)
			u.Hour, u.Min, u.Sec = 23, 59, s.between(58, 61)
			p.isUtc(t, r, u)
		}
		other, beside = p, r
	}
}

// P22.2: of two seconds of TAI the later one is the later one of UTC.
func TestLaterStaysLater(t *testing.T) {
	s := spread(7)
	for _, p := range tables() {
		r := p.table(t)
		first := 86400*p.start + p.ahead
		last := 86400*p.end - 65
		for range 100 {
			a := s.between(first, max(first, last))
			b := min(a+s.between(0, 200000), max(first, last))
			u, e := Of(r, a)
			x, f := Of(r, b)
			if e != api.OK || f != api.OK {
				t.Fatalf("%d, %d of %v: %d, %d", a, b, p, e, f)
			}
			if order(u, x) != cmp.Compare(a, b) {
				t.Fatalf("%d, %d of %v: %v, %v", a, b, p, u, x)
			}
		}
	}
}

// P22.1: a second is of a date, whose number it tells.
func TestASecondIsOfADate(t *testing.T) {
	u := second(2016, 12, 31, 23, 59, 60)
	if n, ok := u.Number(); n != 17166 || !ok {
		t.Errorf("%d, %v", n, ok)
	}
	if d := u.Date; d != (civil.Date{Year: 2016, Month: 12, Day: 31}) || d.Text() != "2016-12-31" || u.Year != 2016 || u.Month != 12 || u.Day != 31 {
		t.Errorf("%v", d)
	}
	// The date can be, the second can't.
	u.Hour = 24
	if u.Good() || !u.Date.Good() || u.Text() != "" {
		t.Errorf("%v: %v, %q", u, u.Good(), u.Text())
	}
}
