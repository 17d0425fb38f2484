package leap

import (
	"regexp"
	"slices"
	"strconv"
	"strings"
	"testing"
	"time"

	"angelus/api"
)

// reads fails, unless a text is that of a table that tells just that, and is told and read again as it was.
func reads(t testing.TB, s string, p plain) {
	t.Helper()
	r, line, code := Parse(s)
	if r == nil || line != 0 || code != api.OK {
		t.Fatalf("%.200q: %v, %d, %d", s, r, line, code)
	}
	tells(t, r, p)
	again, line, code := Parse(r.Text())
	if again == nil || line != 0 || code != api.OK || again.Text() != r.Text() {
		t.Fatalf("%.200q, again: %v, %d, %d", s, again, line, code)
	}
	tells(t, again, p)
}

// fails fails, unless a text is none, by that error, at that line.
func fails(t testing.TB, s string, at int, want api.Errno) {
	t.Helper()
	if r, line, code := Parse(s); r != nil || line != at || code != want {
		t.Fatalf("%.200q: %v, line %d, error %d, not line %d, error %d", s, r, line, code, at, want)
	}
}

// The forms of a table's three kinds of lines.
var (
	startForm = regexp.MustCompile(`^start ([0-9]{4}-[0-9]{2}-[0-9]{2}) (0|[1-9][0-9]?)$`)
	leapForm  = regexp.MustCompile(`^leap ([0-9]{4}-[0-9]{2}-[0-9]{2}) ([+-]1)$`)
	endForm   = regexp.MustCompile(`^end ([0-9]{4}-[0-9]{2}-[0-9]{2})$`)
)

// numbered is the number of a date's day, by the library's calendar; false: there is no such day.
func numbered(date string) (int, bool) {
	d, err := time.Parse(time.DateOnly, date)
	return int(d.Unix() / 86400), err == nil && d.Year() >= 1
}

// formed are the words of a line of a form, and its day; false: it isn't of it.
func formed(form *regexp.Regexp, line string) ([]string, int, bool) {
	words := form.FindStringSubmatch(line)
	if words == nil {
		return nil, 0, false
	}
	day, ok := numbered(words[1])
	return words, day, ok
}

// plainly reads a text as the chapter tells it.
func plainly(s string) (plain, int, api.Errno) {
	if len(s) > 16384 {
		return plain{}, 0, api.ErrLong
	}
	var p plain
	lines := strings.Split(s, "\n")
	part := 0 // 0: the line of start is next; 1: those of leaps, or that of end; 2: no one
	for i, line := range lines {
		if line == "" || line[0] == '#' {
			continue
		}
		start, first, isStart := formed(startForm, line)
		leap, day, isLeap := formed(leapForm, line)
		_, end, isEnd := formed(endForm, line)
		// The day behind which the next one must be.
		last := p.start - 1
		if len(p.leaps) > 0 {
			last = p.leaps[len(p.leaps)-1].Day
		}
		switch {
		case part == 0 && isStart:
			p.start, part = first, 1
			p.ahead, _ = strconv.Atoi(start[2])
		case part == 1 && isLeap:
			if len(p.leaps) == 64 {
				return plain{}, i + 1, api.ErrFull
			}
			if day <= last {
				return plain{}, i + 1, api.ErrOrder
			}
			step, _ := strconv.Atoi(leap[2])
			p.leaps = append(p.leaps, Leap{day, step})
		case part == 1 && isEnd:
			if end <= last || end <= p.start {
				return plain{}, i + 1, api.ErrOrder
			}
			p.end, part = end, 2
		default:
			return plain{}, i + 1, api.ErrForm
		}
	}
	if part != 2 {
		return plain{}, len(lines), api.ErrForm
	}
	return p, 0, api.OK
}

// isRead fails, unless a text is read as the chapter tells it; whether it is a table's.
func isRead(t testing.TB, s string) bool {
	t.Helper()
	p, line, code := plainly(s)
	if code != api.OK {
		fails(t, s, line, code)
		return false
	}
	reads(t, s, p)
	return true
}

const (
	short = "start 1972-01-01 10\nleap 1972-06-30 +1\nleap 1972-12-31 -1\nend 1974-01-01\n"
	begin = "start 1972-01-01 10\n"
)

var shortly = plain{730, 10, 1461, []Leap{{911, 1}, {1095, -1}}}

// P21.1, P21.2: texts and their tables, told by hand.
func TestTextsToldByHand(t *testing.T) {
	reads(t, short, shortly)
	reads(t, strings.TrimSuffix(short, "\n"), shortly)
	reads(t, "start 1972-01-01 10\nleap 1972-06-30 +1\nend 1973-01-01", plain{730, 10, 1096, []Leap{{911, 1}}})
	reads(t, "start 1972-01-01 0\nend 1972-01-02", plain{730, 0, 731, nil})
	reads(t, "start 0001-01-01 99\nend 9999-12-31\n", plain{firstDay, 99, lastDay, nil})
	reads(t, "start 0001-01-01 7\nleap 0001-01-01 -1\nleap 9999-12-30 +1\nend 9999-12-31\n", plain{firstDay, 7, lastDay, []Leap{{firstDay, -1}, {lastDay - 1, 1}}})
	reads(t, "start 9999-12-30 1\nleap 9999-12-30 +1\nend 9999-12-31\n", plain{lastDay - 1, 1, lastDay, []Leap{{lastDay - 1, 1}}})
	reads(t, "start 1969-12-31 9\nleap 1969-12-31 +1\nleap 1970-01-01 -1\nend 1970-01-02\n", plain{-1, 9, 1, []Leap{{-1, 1}, {0, -1}}})
	reads(t, "start 2000-02-28 32\nleap 2000-02-29 +1\nend 2000-03-01\n", plain{11015, 32, 11017, []Leap{{11016, 1}}})
}

// P21.1: an empty text, and such as tell nothing, or no end: all lines are counted.
func TestTextsWithoutAnEnd(t *testing.T) {
	for s, lines := range map[string]int{
		"": 1, "\n": 2, "\n\n\n": 4, "#": 1, "#\n": 2, "\n#": 2, "# start 1972-01-01 10\n# end 1973-01-01": 2,
		"start 1972-01-01 10": 1, begin: 2, begin + "\n": 3, begin + "\n#": 3, "\n\n" + begin: 4, begin + "leap 1972-06-30 +1": 2, begin + "leap 1972-06-30 +1\n": 3, begin + "leap 1972-06-30 +1\n#end 1973-01-01\n\n": 5,
		"start 9999-12-31 10": 1, "start 9999-12-31 10\n": 2, "start 9999-12-31 10\nleap 9999-12-31 +1\n": 3,
	} {
		fails(t, s, lines, api.ErrForm)
	}
	// Where the first line tells nothing, that of a leap is at fault.
	fails(t, "#"+short, 2, api.ErrForm)
	// Behind the last day of all there is none.
	fails(t, "start 9999-12-31 10\nend 9999-12-31", 2, api.ErrOrder)
	fails(t, "start 9999-12-31 10\nleap 9999-12-31 +1\nend 9999-12-31\n", 3, api.ErrOrder)
	fails(t, "start 9999-12-31 10\nend 10000-01-01", 2, api.ErrForm)
	// Without its last line no text is one; with a line twice none either.
	var s spread = 213
	for count := range 65 {
		lines := strings.SplitAfter(s.draw(count).text(), "\n")
		lines = lines[:len(lines)-1]
		fails(t, strings.Join(lines[:len(lines)-1], ""), len(lines), api.ErrForm)
		for i := range lines {
			want := api.ErrOrder
			if i == 0 || i == len(lines)-1 {
				want = api.ErrForm
			}
			if i > 0 && count == 64 && i == len(lines)-2 {
				want = api.ErrFull
			}
			fails(t, strings.Join(slices.Insert(slices.Clone(lines), i, lines[i]), ""), i+2, want)
		}
	}
}

// P21.1: texts of 2^14 bytes, and of more.
func TestHowLongATextIs(t *testing.T) {
	const most = 1 << 14
	for _, filler := range []string{"\n", "#\n", "# a remark\n", "#\u00e9", "##", "#\xff", "#\x00"} {
		// Behind the table, and ahead of it, so that just so many bytes are there.
		fill := func(bytes int) string { return strings.Repeat(filler, bytes/len(filler)+1)[:bytes] }
		for _, size := range []int{most - 2, most - 1, most} {
			reads(t, short+fill(size-len(short)), shortly)
			reads(t, fill(size-len(short)-1)+"\n"+short, shortly)
		}
		for _, size := range []int{most + 1, most + 2, 2 * most, 1 << 16, 1 << 20} {
			fails(t, short+fill(size-len(short)), 0, api.ErrLong)
			fails(t, fill(size-len(short)-1)+"\n"+short, 0, api.ErrLong)
			fails(t, fill(size), 0, api.ErrLong)
		}
	}
	// Bytes count, and not letters.
	wide := strings.Repeat("\u00e9", most/2)
	fails(t, short+"#"+wide[:2*(most/2-len(short)/2)], 0, api.ErrLong)
	// At just as many bytes other faults are told, and with one more they aren't.
	for s, want := range map[string][2]int{
		"end 1973-01-01\n": {1, int(api.ErrForm)}, begin + "leap 1971-12-31 +1\n": {2, int(api.ErrOrder)}, short + "x\n": {5, int(api.ErrForm)}, begin + "end 1972-01-01\n#": {2, int(api.ErrOrder)},
	} {
		long := s + strings.Repeat("#", most-len(s))
		fails(t, long, want[0], api.Errno(want[1]))
		fails(t, long+"#", 0, api.ErrLong)
	}
	fails(t, strings.Repeat("\n", most), most+1, api.ErrForm)
	fails(t, strings.Repeat("#\n", most/2), most/2+1, api.ErrForm)
	fails(t, strings.Repeat("x", most), 1, api.ErrForm)
	fails(t, strings.Repeat(" ", most), 1, api.ErrForm)
	fails(t, strings.Repeat("x\n", most/2), 1, api.ErrForm)
	fails(t, strings.Repeat("\n", most-1)+"x", most, api.ErrForm)
	fails(t, strings.Repeat("\n", most+1), 0, api.ErrLong)
}

// P21.1, P21.2: lines that are empty, or begin with #, wherever they stand.
func TestLinesThatArePassedOver(t *testing.T) {
	lines := strings.Split(strings.TrimSuffix(short, "\n"), "\n")
	remarks := []string{"", "#", "# ", "##", "#start 1972-01-01 10", "#end 1973-01-01", "# leap 1972-06-30 +1", "#\x00", "#\xff\xfe", "#\u00e9", "# \u2028", "#\r", "#\t", "#" + strings.Repeat("x", 300)}
	for place := range len(lines) + 1 {
		for _, remark := range remarks {
			for _, count := range []int{1, 2, 9} {
				more := slices.Insert(slices.Clone(lines), place, slices.Repeat([]string{remark}, count)...)
				reads(t, strings.Join(more, "\n"), shortly)
				reads(t, strings.Join(more, "\n")+"\n", shortly)
				// The line at fault is told by its number among all of them.
				for i := range more {
					wrong := slices.Insert(slices.Clone(more), i, "x")
					fails(t, strings.Join(wrong, "\n"), i+1, api.ErrForm)
				}
				fails(t, strings.Join(more, "\n")+"\nx", len(more)+1, api.ErrForm)
				fails(t, strings.Join(more, "\n")+"\n\n#\n\nx\n", len(more)+4, api.ErrForm)
			}
		}
	}
	// Between all of them at once.
	reads(t, "\n#\n"+strings.Join(lines, "\n\n#\n#x\n\n")+"\n\n#", shortly)
	// A blank ahead of # makes it another line, and so does anything where a line is to be empty.
	for _, s := range []string{" ", " #", "\t", "\t#", "\r", "x#", "\x00", "\xff", "\u00a0", "\ufeff", "\ufeff#", "//", ";", "-", "  # remark", "\u2028", "\v", "\f"} {
		for place := range len(lines) + 1 {
			fails(t, strings.Join(slices.Insert(slices.Clone(lines), place, s), "\n"), place+1, api.ErrForm)
		}
	}
	// A # behind a line's beginning is no remark.
	for i := range lines {
		for _, tail := range []string{"#", " #", " # remark", "# remark"} {
			fails(t, strings.Join(with(lines, i, lines[i]+tail), "\n"), i+1, api.ErrForm)
		}
	}
	// Line feeds alone part lines.
	for _, feed := range []string{"\r\n", "\r", "\v", "\f", "\u0085", "\u2028", " ", ";"} {
		fails(t, strings.Join(lines, feed), 1, api.ErrForm)
		fails(t, strings.Join(lines, feed)+feed, 1, api.ErrForm)
	}
	fails(t, strings.Join(lines, "\n\r"), 2, api.ErrForm)
}

// wrongDates are words that are no date's text.
var wrongDates = []string{
	"", "x", "0", "1972", "1972-01", "1972-1-1", "1972-01-1", "1972-1-01", "72-01-01", "01972-01-01", "19720101", "1972/01/01", "1972.01.01", "01-01-1972", "1972-01-01T", "1972-01-01Z", "+1972-01-01", "-1972-01-01", "1972--1-01", "1972-01-001", "1972-001-1",
	"0000-01-01", "0000-00-00", "1972-00-01", "1972-13-01", "1972-01-00", "1972-01-32", "1972-02-30", "1973-02-29", "1900-02-29", "2100-02-29", "1972-04-31", "1972-06-31", "1972-09-31", "1972-11-31", "10000-01-01", "1972-99-99",
	"l972-01-01", "1972-0l-01", "197x-01-01", "1972-Ol-01", "1972\u201301\u201301", "1972\u221201-01", "\u0661\u0669\u0667\u0662-01-01", "\uff11\uff19\uff17\uff12-\uff10\uff11-\uff10\uff11", "197\u00b2-01-01", "1972-01-0\u0131", "1972-01-\xff1", "1972-01-01\x00", "\x001972-01-01", "1972-01-01\r", "\t1972-01-01", "1972-01-01,",
}

// wrongLines are such that are of no form, made of the words of one that is.
func wrongLines(words ...string) []string {
	line := strings.Join(words, " ")
	list := []string{
		" " + line, line + " ", "  " + line, line + "  ", " " + line + " ", "\t" + line, line + "\t", line + "\r", "\r" + line, line + "\x00", "\x00" + line, "\xff" + line, line + "\xff", "\u00e9" + line, "\ufeff" + line, line + ".", line + ",", line + ";", "-" + line, "+" + line,
		strings.ToUpper(line), strings.ToUpper(line[:1]) + line[1:], strings.Join(words, "  "), strings.Join(words, "\t"), strings.Join(words, ""), strings.Join(words, "\u00a0"), strings.Join(words, " \t"), strings.Join(words, ", "), line + " " + line, line + "," + line,
	}
	for _, more := range []string{"x", "0", "1", "+1", "-1", "10", "1973-01-01", "start", "leap", "end", "#", "-"} {
		list = append(list, line+" "+more, more+" "+line, words[0]+" "+more+" "+strings.Join(words[1:], " "))
	}
	for i := range words {
		list = append(list, strings.Join(slices.Delete(slices.Clone(words), i, i+1), " "), strings.Join(words[:i], " ")+"  "+strings.Join(words[i:], " "), strings.Join(with(words, i, ""), " "))
	}
	for i := range words {
		for k := range i {
			swapped := slices.Clone(words)
			swapped[i], swapped[k] = words[k], words[i]
			list = append(list, strings.Join(swapped, " "))
		}
	}
	for _, first := range []string{"", "x", "start", "leap", "end", "Start", "START", "starts", "star", "sstart", "begin", "Leap", "LEAP", "leaps", "lea", "leap:", "End", "END", "ends", "en", "the end", "start\x00", "end\x00", "leap\xff", "s\u0442art", "\uff45nd", "net", "st art", "le\u00e4p"} {
		list = append(list, strings.Join(with(words, 0, first), " "))
	}
	for _, date := range wrongDates {
		list = append(list, strings.Join(with(words, 1, date), " "))
	}
	return slices.DeleteFunc(list, func(s string) bool { return s == "" || s[0] == '#' || s == line })
}

// P21.1: each kind of line with a word too few, too many, another word, big letters, other blanks, a date that can't be; in each place.
func TestLinesOfNoForm(t *testing.T) {
	lines := strings.Split(strings.TrimSuffix(short, "\n"), "\n")
	for place, line := range lines {
		for _, wrong := range wrongLines(strings.Split(line, " ")...) {
			bad := with(lines, place, wrong)
			fails(t, strings.Join(bad, "\n"), place+1, api.ErrForm)
			fails(t, strings.Join(bad, "\n")+"\n", place+1, api.ErrForm)
			// It is the last line of all, too, and stands behind lines that are passed over.
			fails(t, strings.Join(bad[:place+1], "\n"), place+1, api.ErrForm)
			fails(t, "#\n\n#\n"+strings.Join(bad, "\n"), place+4, api.ErrForm)
			if _, _, code := plainly(strings.Join(bad, "\n")); code != api.ErrForm {
				t.Fatalf("%q", bad)
			}
		}
	}
}

// P21.1: what a table begins with.
func TestAheadOfATable(t *testing.T) {
	for n := range 100 {
		s := strconv.Itoa(n)
		reads(t, "start 1972-01-01 "+s+"\nend 1973-01-01\n", plain{730, n, 1096, nil})
		fails(t, "start 1972-01-01 0"+s+"\nend 1973-01-01\n", 1, api.ErrForm)
		fails(t, "start 1972-01-01 00"+s+"\nend 1973-01-01\n", 1, api.ErrForm)
		for _, wrong := range []string{"+" + s, "-" + s, s + "+", s + "-", s + ".", s + ".0", s + "e0", s + "x", "x" + s, "0x" + s, s + "\x00", "\x00" + s, s + "\xff", "\xff" + s, s + "\u0661", "\u0661" + s, s + ",", s + "_", "_" + s, " " + s, s + " ", s + "\r", s + "\t"} {
			fails(t, "start 1972-01-01 "+wrong+"\nend 1973-01-01\n", 1, api.ErrForm)
		}
	}
	for n := 100; n < 1100; n++ {
		fails(t, "start 1972-01-01 "+strconv.Itoa(n)+"\nend 1973-01-01\n", 1, api.ErrForm)
	}
	for _, wrong := range []string{
		"", "00", "01", "07", "09", "000", "-0", "+0", "-1", "+1", "+10", "-10", "1 0", "x", "ten", "1a", "a1", "A", "f", "1/", "1:", "/1", ":1", "1_0", "0b1", "0o7", "0x7", "1e1", "1.", ".1",
		"\u0660", "\u0661\u0660", "\uff11", "\uff11\uff10", "\u00b2", "1\u00b2", "\u0131", "1\u0130", "\u0130", "\u0131\u0130", "\u0230", "\U00010030", "1\U00010031", "\x80", "\xb1\xb0", "1\xb0", "\xff", "\x00", "1\x00",
		"256", "266", "65536", "65546", "4294967296", "4294967306", "9223372036854775807", "9223372036854775808", "18446744073709551615", "18446744073709551616", "18446744073709551626", "340282366920938463463374607431768211466", "010", "0010", "099", "990", "0000000000000000000000010",
		strings.Repeat("0", 16000), strings.Repeat("9", 16000), "1" + strings.Repeat("0", 64), "1" + strings.Repeat("0", 16000),
	} {
		fails(t, "start 1972-01-01 "+wrong+"\nend 1973-01-01\n", 1, api.ErrForm)
	}
}

// P21.1: a leap's sign.
func TestTheSignOfALeap(t *testing.T) {
	reads(t, begin+"leap 1972-06-30 +1\nend 1973-01-01\n", plain{730, 10, 1096, []Leap{{911, 1}}})
	reads(t, begin+"leap 1972-06-30 -1\nend 1973-01-01\n", plain{730, 10, 1096, []Leap{{911, -1}}})
	for _, wrong := range []string{
		"", "1", "0", "2", "+0", "-0", "+2", "-2", "+", "-", "+1+", "++1", "--1", "+-1", "-+1", "+01", "-01", "+1.", "+1.0", "+10", "-10", "+11", "1+", "1-", "+ 1", "- 1", "01", "10", "x", "+x", "+l", "one", "more", "less", "\u22121", "\u20131", "\uff0b1", "+\uff11", "+\u0661", "\u00b11", "+1\x00", "\x00+1", "+1\xff", "\xff+1", "+1\r", "+\xb1", "~1", "*1", ",1", "/1", "+1e0", "+0x1", "4294967297", "+4294967297", "18446744073709551615",
	} {
		fails(t, begin+"leap 1972-06-30 "+wrong+"\nend 1973-01-01\n", 2, api.ErrForm)
		fails(t, begin+"leap 1972-06-29 +1\nleap 1972-06-30 "+wrong+"\nend 1973-01-01\n", 3, api.ErrForm)
	}
}

// P21.1: each line stands in its place.
func TestWhereLinesStand(t *testing.T) {
	const (
		start = "start 1972-01-01 10\n"
		later = "start 1972-01-02 10\n"
		leap  = "leap 1972-06-30 +1\n"
		next  = "leap 1972-12-31 -1\n"
		end   = "end 1973-01-01\n"
		last  = "end 1974-01-01\n"
	)
	for _, c := range []struct {
		s    string
		line int
		code api.Errno
	}{
		{leap + start + end, 1, api.ErrForm}, {end + start, 1, api.ErrForm}, {end, 1, api.ErrForm}, {leap, 1, api.ErrForm}, {end + start + end, 1, api.ErrForm}, {leap + leap, 1, api.ErrForm},
		{start + start, 2, api.ErrForm}, {start + start + end, 2, api.ErrForm}, {start + later + end, 2, api.ErrForm}, {start + leap + start + end, 3, api.ErrForm}, {start + leap + later + end, 3, api.ErrForm}, {start + end + start, 3, api.ErrForm}, {start + end + later, 3, api.ErrForm}, {start + end + start + end, 3, api.ErrForm},
		{start + end + end, 3, api.ErrForm}, {start + end + last, 3, api.ErrForm}, {start + leap + end + last, 4, api.ErrForm}, {start + end + leap, 3, api.ErrForm}, {start + end + next, 3, api.ErrForm}, {start + end + leap + last, 3, api.ErrForm}, {start + end + "leap 1973-06-30 +1\nend 1974-01-01\n", 3, api.ErrForm},
		{start + end + "x", 3, api.ErrForm}, {start + end + " ", 3, api.ErrForm}, {start + end + "\nx", 4, api.ErrForm}, {start + end + "#\n\n\x00", 5, api.ErrForm}, {start + end + "end", 3, api.ErrForm},
		{start + leap + next, 4, api.ErrForm}, {start + next + leap, 3, api.ErrOrder}, {start + next + leap + end, 3, api.ErrOrder},
	} {
		fails(t, c.s, c.line, c.code)
		fails(t, "\n# \n\n"+c.s, c.line+3, c.code)
		if _, line, code := plainly(c.s); line != c.line || code != c.code {
			t.Fatalf("%q", c.s)
		}
	}
	reads(t, start+end, plain{730, 10, 1096, nil})
	reads(t, start+next+end, plain{730, 10, 1096, []Leap{{1095, -1}}})
	reads(t, start+leap+next+end, plain{730, 10, 1096, []Leap{{911, 1}, {1095, -1}}})
}

// P21.1: days of leaps, and the end's, at the edges of what may be.
func TestTheOrderOfLines(t *testing.T) {
	for _, c := range []struct {
		s    string
		line int
	}{
		{begin + "leap 1971-12-31 +1", 2}, {begin + "leap 1971-12-30 +1\nend 1973-01-01", 2}, {begin + "leap 0001-01-01 -1\nend 1973-01-01", 2}, {begin + "leap 1971-06-30 +1\nleap 1972-06-30 +1\nend 1973-01-01", 2},
		{begin + "leap 1972-01-01 +1\nleap 1972-01-01 +1\nend 1973-01-01", 3}, {begin + "leap 1972-06-30 +1\nleap 1972-06-30 -1\nend 1973-01-01", 3}, {begin + "leap 1972-06-30 +1\nleap 1972-06-29 +1\nend 1973-01-01", 3}, {begin + "leap 1972-06-30 +1\nleap 1971-06-30 +1\nend 1973-01-01", 3}, {begin + "leap 1972-06-30 +1\nleap 1972-12-31 +1\nleap 1972-06-30 +1\nend 1973-01-01", 4}, {begin + "leap 1972-06-30 +1\nleap 1972-12-31 +1\nleap 1972-09-30 +1", 4},
		{begin + "end 1972-01-01", 2}, {begin + "end 1971-12-31", 2}, {begin + "end 0001-01-01", 2}, {begin + "#\n\nend 1972-01-01\n", 4},
		{begin + "leap 1972-06-30 +1\nend 1972-06-30", 3}, {begin + "leap 1972-06-30 +1\nend 1972-06-29", 3}, {begin + "leap 1972-06-30 +1\nend 1972-01-01", 3}, {begin + "leap 1972-06-30 +1\nend 1971-12-31", 3}, {begin + "leap 1972-01-01 +1\nend 1972-01-01", 3}, {begin + "leap 1972-01-01 +1\nend 1971-12-31\n", 3}, {begin + "leap 1972-06-30 +1\nleap 1972-12-31 +1\nend 1972-09-30", 4}, {begin + "leap 1972-06-30 +1\nleap 1972-12-31 +1\nend 1972-12-31", 4},
	} {
		fails(t, c.s, c.line, api.ErrOrder)
		fails(t, "#\n"+c.s+"\n", c.line+1, api.ErrOrder)
		if _, line, code := plainly(c.s); line != c.line || code != api.ErrOrder {
			t.Fatalf("%q", c.s)
		}
	}
	reads(t, begin+"leap 1972-01-01 +1\nend 1972-01-02\n", plain{730, 10, 731, []Leap{{730, 1}}})
	reads(t, begin+"leap 1972-01-01 +1\nleap 1972-01-02 -1\nend 1972-01-03\n", plain{730, 10, 732, []Leap{{730, 1}, {731, -1}}})
	reads(t, begin+"leap 1972-06-30 +1\nend 1972-07-01\n", plain{730, 10, 912, []Leap{{911, 1}}})
	reads(t, begin+"end 1972-01-02\n", plain{730, 10, 731, nil})
	// All days about a start and a leap, of the leap, of one more, and of the end.
	for first := 728; first <= 735; first++ {
		for second := 728; second <= 735; second++ {
			for end := 728; end <= 735; end++ {
				tail := "end " + dated(end) + "\n"
				isRead(t, begin+tail)
				isRead(t, begin+"leap "+dated(first)+" -1\n"+tail)
				isRead(t, begin+"leap "+dated(first)+" +1\nleap "+dated(second)+" +1\n"+tail)
			}
		}
	}
}

// P21.1, P21.2: 64 leaps, and more.
func TestHowManyLeapsATextHas(t *testing.T) {
	lines := func(count int) string {
		return strings.TrimSuffix(plain{730, 10, 9999, row(800, count, 3)}.text(), "end "+dated(9999)+"\n")
	}
	end := "end " + dated(9999) + "\n"
	for _, count := range []int{0, 1, 2, 63, 64} {
		reads(t, lines(count)+end, plain{730, 10, 9999, row(800, count, 3)})
	}
	for _, count := range []int{65, 66, 100, 400} {
		fails(t, lines(count)+end, 66, api.ErrFull)
		fails(t, lines(count), 66, api.ErrFull)
		fails(t, "#\n\n"+lines(count)+end, 68, api.ErrFull)
	}
	full := lines(64)
	for _, more := range []string{"leap " + dated(9000) + " +1", "leap " + dated(800+63*3) + " +1", "leap " + dated(800) + " +1", "leap " + dated(729) + " -1", "leap 0001-01-01 -1", "leap 9999-12-31 +1"} {
		// The day of one too many isn't asked.
		fails(t, full+more, 66, api.ErrFull)
		fails(t, full+more+"\n"+end, 66, api.ErrFull)
		fails(t, full+"\n#\n"+more+"\n"+end, 68, api.ErrFull)
		// Behind the end no leap is as told.
		fails(t, full+end+more, 67, api.ErrForm)
	}
	// What is of no form is so there, too.
	for _, wrong := range []string{"leap", "leap " + dated(9000), "leap " + dated(9000) + " 1", "leap 1972-02-30 +1", "leap " + dated(9000) + " +1 ", "start 1972-01-01 10", "x", "leap 0001-01-01 +2"} {
		fails(t, full+wrong, 66, api.ErrForm)
		fails(t, full+wrong+"\n"+end, 66, api.ErrForm)
	}
	fails(t, full+"end "+dated(800+63*3)+"\n", 66, api.ErrOrder)
	reads(t, full+"end "+dated(800+63*3+1)+"\n", plain{730, 10, 800 + 63*3 + 1, row(800, 64, 3)})
	fails(t, full, 66, api.ErrForm)
	// A leap out of order among many is told at its own line.
	for place := 1; place < 64; place++ {
		list := strings.SplitAfter(lines(70), "\n")
		list[place+1] = list[place]
		fails(t, strings.Join(list, "")+end, place+2, api.ErrOrder)
	}
}

// P21.1: where several errors apply in a line, the first one of the order; of several lines, the first one.
func TestWhichErrorParseAnswers(t *testing.T) {
	for _, c := range []struct {
		s    string
		line int
		code api.Errno
	}{
		{begin + "leap 1971-12-31 1\n", 2, api.ErrForm}, {begin + "leap 1971-12-31 +1 \n", 2, api.ErrForm}, {begin + "end 1971-12-31 \n", 2, api.ErrForm}, {begin + "end 1971-12-32\n", 2, api.ErrForm}, {begin + "leap 1971-12-32 +1", 2, api.ErrForm}, {begin + "leap 1972-06-30 +1\nleap 1972-06-30 +2", 3, api.ErrForm}, {begin + "leap 1972-06-30 +1\nleap 1972-06-30 +1\nx", 3, api.ErrOrder},
		{"x\n" + begin + "leap 1971-12-31 +1", 1, api.ErrForm}, {begin + "leap 1971-12-31 +1\nx\n", 2, api.ErrOrder}, {begin + "leap 1971-12-31 +1\nleap\n", 2, api.ErrOrder}, {begin + "leap\nleap 1971-12-31 +1\n", 2, api.ErrForm}, {begin + "end 1972-01-01\nx", 2, api.ErrOrder}, {begin + "end 1972-01-01\nend 1973-01-01", 2, api.ErrOrder}, {begin + "end\nend 1972-01-01", 2, api.ErrForm}, {begin + "end 1973-01-01\nend 1972-01-01", 3, api.ErrForm},
		{"start 1972-01-01 100\nleap 1971-12-31 +1\nend 1971-01-01\nx", 1, api.ErrForm}, {"start 1972-02-30 10\nend 1970-01-01", 1, api.ErrForm}, {"start 1972-01-01\nx", 1, api.ErrForm}, {begin + "leap 1972-06-30 +1\nend 1972-06-30\n\n#\nx", 3, api.ErrOrder}, {begin + "x\ny\nz", 2, api.ErrForm},
		// The fault of a line is told ahead of that there is no end.
		{begin + "leap 1971-12-31 +1\n\n\n", 2, api.ErrOrder}, {begin + "end 1972-01-01\n\n\n", 2, api.ErrOrder}, {begin + "x\n\n\n", 2, api.ErrForm}, {"x\n\n\n", 1, api.ErrForm}, {begin + "leap 1972-06-30 +1\n\n\n", 5, api.ErrForm},
	} {
		fails(t, c.s, c.line, c.code)
		if _, line, code := plainly(c.s); line != c.line || code != c.code {
			t.Fatalf("%q", c.s)
		}
	}
}

// P21.1: each byte in each place of a text, one more there, and one less.
func TestEachByteOfAText(t *testing.T) {
	const text = "start 1972-01-01 10\n#\nleap 1972-06-30 +1\nleap 1972-12-31 -1\nend 1974-01-01"
	count := 0
	for place := range len(text) + 1 {
		if place < len(text) && isRead(t, text[:place]+text[place+1:]) {
			count++
		}
		isRead(t, text[:place])
		isRead(t, text[place:])
		for b := range 256 {
			if isRead(t, text[:place]+string([]byte{byte(b)})+text[place:]) {
				count++
			}
			if place < len(text) && isRead(t, text[:place]+string([]byte{byte(b)})+text[place+1:]) {
				count++
			}
		}
	}
	if count < 600 {
		t.Errorf("%d texts were read", count)
	}
}

// P21.1: letters of several bytes in each place.
func TestLettersOfSeveralBytes(t *testing.T) {
	for _, text := range []string{short, begin + "#\nend 1999-09-09"} {
		for _, r := range []rune{0x80, 0xa0, 0xb9, 0xe9, 0x12d, 0x130, 0x131, 0x10a, 0x120, 0x123, 0x230, 0x660, 0x661, 0x2028, 0x2212, 0xfeff, 0xff0b, 0xff10, 0xff11, 0xfffd, 0x1000a, 0x10030, 0x10ffff} {
			for place := range len(text) + 1 {
				isRead(t, text[:place]+string(r)+text[place:])
				if place < len(text) {
					isRead(t, text[:place]+string(r)+text[place+1:])
				}
			}
		}
	}
}

// P21.1: all texts of a few lines.
func TestAllTextsOfAFewLines(t *testing.T) {
	pool := []string{"", "#", "x", "start 1972-01-01 10", "start 1973-01-01 0", "start 1972-01-01 010", "leap 1972-06-30 +1", "leap 1972-12-31 -1", "leap 1971-12-31 +1", "leap 1972-06-30 1", "end 1972-07-01", "end 1974-01-01", "end 1974-01-32"}
	read := 0
	var grow func(lines []string, left int)
	grow = func(lines []string, left int) {
		if isRead(t, strings.Join(lines, "\n")) {
			read++
		}
		if left == 0 {
			return
		}
		for _, line := range pool {
			grow(append(lines[:len(lines):len(lines)], line), left-1)
		}
	}
	grow([]string{"start 1972-01-01 10"}, 4)
	for _, line := range pool {
		grow([]string{line}, 2)
	}
	if read < 200 {
		t.Errorf("%d texts were read", read)
	}
}

// P21.1, P21.2: texts of tables that are drawn, with lines that are passed over between, and with a fault somewhere.
func TestDrawnTexts(t *testing.T) {
	var s spread = 214
	read := 0
	for range 6000 {
		p := s.draw(s.between(0, 64))
		lines := strings.Split(p.text(), "\n")
		for range s.between(0, 5) {
			lines = slices.Insert(lines, s.between(0, len(lines)), []string{"", "#", "# leap", "#\xff"}[s.between(0, 3)])
		}
		reads(t, strings.Join(lines, "\n"), p)
		for range s.between(1, 2) {
			i, k := s.between(0, len(lines)-1), s.between(0, len(lines)-1)
			switch s.between(0, 4) {
			case 0:
				lines[i], lines[k] = lines[k], lines[i]
			case 1:
				lines = slices.Insert(lines, i, lines[k])
			case 2:
				lines = slices.Delete(lines, i, i+1)
				lines = append(lines, "")
			case 3:
				if n := len(lines[i]); n > 0 {
					b := []byte(lines[i])
					b[s.between(0, n-1)] = "0123456789-+ #xX\n\xff"[s.between(0, 17)]
					lines[i] = string(b)
				}
			default:
				lines[i] = strings.Replace(lines[i], "1", "2", 1)
			}
		}
		if isRead(t, strings.Join(lines, "\n")) {
			read++
		}
	}
	if read < 100 || read > 5000 {
		t.Errorf("%d texts were read", read)
	}
}

// P21.1: what is read hangs on its text alone, and two tables know nothing of one another.
func TestTextsOneBehindTheOther(t *testing.T) {
	r, _, _ := Parse(short)
	other, _, _ := Parse("start 1980-01-01 19\nleap 1980-06-30 -1\nend 1981-01-01\n")
	for range 3 {
		fails(t, begin+"leap 1971-12-31 +1", 2, api.ErrOrder)
		fails(t, "", 1, api.ErrForm)
		fails(t, strings.Repeat("#", 1<<14+1), 0, api.ErrLong)
		reads(t, short, shortly)
		tells(t, r, shortly)
		tells(t, other, plain{3652, 19, 4018, []Leap{{3833, -1}}})
	}
}
