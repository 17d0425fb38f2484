package utc

import (
	"strings"
	"testing"
	"time"
)

// padded tells a number in so many digits, letter by letter.
func padded(n, width int) string {
	b := make([]byte, width)
	for i := width - 1; i >= 0; i-- {
		b[i] = "0123456789"[n%10]
		n /= 10
	}
	return string(b)
}

// written is the text of six numbers, whether they are a second or not.
func written(u Utc) string {
	return padded(u.Year, 4) + "-" + padded(u.Month, 2) + "-" + padded(u.Day, 2) + "T" + padded(u.Hour, 2) + ":" + padded(u.Min, 2) + ":" + padded(u.Sec, 2) + "Z"
}

// is fails, unless a second and a text are each other's.
func is(t testing.TB, u Utc, text string) {
	t.Helper()
	if s := u.Text(); s != text {
		t.Fatalf("%v: %q, not %q", u, s, text)
	}
	if x, ok := Parse(text); x != u || !ok {
		t.Fatalf("%q: %v, %v, not %v", text, x, ok, u)
	}
}

// isNone fails, unless a text is no second's.
func isNone(t testing.TB, text string) {
	t.Helper()
	if u, ok := Parse(text); ok || u != (Utc{}) {
		t.Fatalf("%q: %v, %v", text, u, ok)
	}
}

// digit: whether a byte is one.
func digit(b byte) bool {
	return '0' <= b && b <= '9'
}

// read is the second of a text, as the library and the rules tell it.
func read(s string) (Utc, bool) {
	if len(s) != 20 {
		return Utc{}, false
	}
	var numbers [6]int
	n := 0
	for i := range len(s) {
		if mark := "dddd-dd-ddTdd:dd:ddZ"[i]; mark != 'd' {
			if s[i] != mark {
				return Utc{}, false
			}
			n++
			continue
		}
		if !digit(s[i]) {
			return Utc{}, false
		}
		numbers[n] = 10*numbers[n] + strings.IndexByte("0123456789", s[i])
	}
	u := second(numbers[0], numbers[1], numbers[2], numbers[3], numbers[4], numbers[5])
	if !can(u) {
		return Utc{}, false
	}
	return u, true
}

// reads fails, unless Parse answers what the rules say, and what it takes is told again as it was.
func reads(t testing.TB, s string) {
	t.Helper()
	want, known := read(s)
	u, ok := Parse(s)
	if u != want || ok != known {
		t.Fatalf("%q: %v, %v, not %v, %v", s, u, ok, want, known)
	}
	if ok && u.Text() != s {
		t.Fatalf("%q: %q", s, u.Text())
	}
}

// some are texts of seconds.
func some() []string {
	return []string{"2016-12-31T23:59:60Z", "2016-12-31T23:59:59Z", "0001-01-01T00:00:00Z", "9999-12-31T23:59:60Z", "2000-02-29T12:34:56Z", "1972-06-30T09:08:07Z", "1111-11-11T11:11:11Z"}
}

// P22.1, P22.2: seconds whose numbers have each number of digits, told by hand.
func TestTextsToldByHand(t *testing.T) {
	is(t, second(2016, 12, 31, 23, 59, 60), "2016-12-31T23:59:60Z")
	is(t, second(1, 1, 1, 0, 0, 0), "0001-01-01T00:00:00Z")
	is(t, second(9999, 12, 31, 23, 59, 59), "9999-12-31T23:59:59Z")
	is(t, second(9999, 12, 31, 23, 59, 60), "9999-12-31T23:59:60Z")
	is(t, second(12, 3, 4, 5, 6, 7), "0012-03-04T05:06:07Z")
	is(t, second(123, 10, 9, 10, 9, 8), "0123-10-09T10:09:08Z")
	is(t, second(1234, 9, 10, 9, 10, 9), "1234-09-10T09:10:09Z")
	is(t, second(1970, 1, 1, 0, 0, 1), "1970-01-01T00:00:01Z")
	is(t, second(2000, 2, 29, 20, 30, 40), "2000-02-29T20:30:40Z")
	is(t, second(1969, 7, 20, 20, 17, 40), "1969-07-20T20:17:40Z")
	is(t, second(1, 1, 1, 23, 59, 60), "0001-01-01T23:59:60Z")
	is(t, second(2017, 2, 3, 0, 59, 59), "2017-02-03T00:59:59Z")
	is(t, second(2017, 2, 3, 23, 0, 59), "2017-02-03T23:00:59Z")
}

// P22.1, P22.2: each second that any day may have.
func TestTextsOfAWholeDay(t *testing.T) {
	for _, d := range [][3]int{{2016, 12, 31}, {7, 3, 1}} {
		for hour := range 24 {
			for min := range 60 {
				for sec := range 60 {
					u := second(d[0], d[1], d[2], hour, min, sec)
					is(t, u, written(u))
				}
			}
		}
		u := second(d[0], d[1], d[2], 23, 59, 60)
		is(t, u, written(u))
	}
}

// P22.1, P22.2: dates of all years, and all texts of digits of some.
func TestTextsOfDates(t *testing.T) {
	for year := 1; year <= 9999; year++ {
		l := time.Date(year, time.Month(1+year%12), 1+year%28, year%24, year%60, year%59, 0, time.UTC)
		is(t, counted(int(l.Unix())), l.Format("2006-01-02T15:04:05Z"))
	}
	for _, year := range []int{0, 1, 1900, 2000, 2015, 2016, 9999} {
		for month := range 100 {
			for day := range 100 {
				u := second(year, month, day, 23, 59, 60)
				reads(t, written(u))
				u.Hour = 0
				reads(t, written(u))
				u.Sec = 0
				reads(t, written(u))
			}
		}
	}
}

// P22.1: all hours, minutes and seconds of two digits each.
func TestAllTimesOfTwoDigits(t *testing.T) {
	for hour := range 100 {
		for min := range 100 {
			for sec := range 100 {
				reads(t, written(second(2017, 2, 3, hour, min, sec)))
			}
		}
	}
}

// P22.1: no text of what can't be, though its numbers have digits enough.
func TestNoTextOfWhatCannotBe(t *testing.T) {
	for _, u := range []Utc{
		{}, second(0, 1, 1, 0, 0, 0), second(10000, 1, 1, 0, 0, 0), second(2016, 13, 1, 0, 0, 0), second(2016, 0, 1, 0, 0, 0), second(2016, 2, 30, 0, 0, 0), second(2015, 2, 29, 0, 0, 0), second(2016, 1, 0, 0, 0, 0),
		second(2016, 12, 31, 24, 0, 0), second(2016, 12, 31, -1, 0, 0), second(2016, 12, 31, 23, 60, 0), second(2016, 12, 31, 23, -1, 0), second(2016, 12, 31, 23, 59, 61), second(2016, 12, 31, 23, 59, -1),
		second(2016, 12, 31, 23, 58, 60), second(2016, 12, 31, 22, 59, 60), second(2016, 12, 31, 0, 0, 60), second(2016, 12, 31, 24, 59, 60), second(2016, 12, 31, 23, 60, 60),
		second(least, 1, 1, 0, 0, 0), second(greatest, 1, 1, 0, 0, 0), second(2016, 1, 1, least, 0, 0), second(2016, 1, 1, greatest, 0, 0), second(2016, 1, 1, 0, least, 0), second(2016, 1, 1, 0, greatest, 0), second(2016, 1, 1, 0, 0, least), second(2016, 1, 1, 0, 0, greatest),
	} {
		if s := u.Text(); s != "" || u.Good() {
			t.Errorf("%v: %q, %v", u, s, u.Good())
		}
	}
}

// P22.1: texts that are no second's, told by hand.
func TestTextsOfNone(t *testing.T) {
	for _, s := range []string{
		"", " ", "Z", "T", "0", "2016-12-31", "2016-12-31T", "23:59:60Z", "T23:59:60Z", "2016-12-31T23:59Z", "2016-12-31T23:59:60", "2016-12-31T23:59:60ZZ", "2016-12-31T23:59:60Z ", " 2016-12-31T23:59:60Z", "2016-12-31T23:59:60Z\n", "2016-12-31T23:59:60Z\x00", "02016-12-31T23:59:60Z", "2016-12-31T023:59:60Z",
		"2016-12-31t23:59:60Z", "2016-12-31T23:59:60z", "2016-12-31t23:59:60z", "2016-12-31 23:59:60Z", "2016-12-31T23:59:60 ", "2016-12-31T23:59:60+", "2016-12-31T23.59.60Z", "2016-12-31T23:59.60Z", "2016-12-31T23-59-60Z", "2016:12:31T23:59:60Z", "2016/12/31T23:59:60Z", "20161-2-31T23:59:60Z", "2016-12-31T235:9:60Z", "2016-12-3T123:59:60Z",
		"2016-12-31T24:00:00Z", "2016-12-31T24:59:60Z", "2016-12-31T23:60:00Z", "2016-12-31T00:60:00Z", "2016-12-31T23:60:60Z", "2016-12-31T23:59:61Z", "2016-12-31T22:59:60Z", "2016-12-31T23:58:60Z", "2016-12-31T00:00:60Z", "2016-12-31T00:00:61Z", "2016-12-31T99:99:99Z", "2016-12-31T23:59:99Z", "2016-12-31T23:59:70Z",
		"2016-13-31T00:00:00Z", "2016-00-31T00:00:00Z", "2016-12-32T00:00:00Z", "2016-12-00T00:00:00Z", "2015-02-29T00:00:00Z", "1900-02-29T00:00:00Z", "0000-01-01T00:00:00Z", "0000-00-00T00:00:00Z",
		"-016-12-31T00:00:00Z", "+016-12-31T00:00:00Z", "2016--2-31T00:00:00Z", "2016-+2-31T00:00:00Z", "2016-12-+1T00:00:00Z", "2016-12-31T+0:00:00Z", "2016-12-31T-0:00:00Z", "2016-12-31T00:+0:00Z", "2016-12-31T00:-0:00Z", "2016-12-31T00:00:+0Z", "2016-12-31T00:00:-0Z", "2016-12-31T-1:00:00Z", "2016-12-31T00:00:-1Z",
		"2016-12-31T 0:00:00Z", "2016-12-31T0 :00:00Z", "2016-12-31T00: 0:00Z", "2016-12-31T00:00: 0Z", "2016-12-31T0:000:00Z", "2016-12-31T0x:00:00Z", "2016-12-31T0A:00:00Z", "2016-12-31T00:00:0_Z", "2016-12-31T00:00:/:Z", "2016-12-31T1/:00:00Z", "2016-12-31T0::00:00Z", "2016-12-31T1\":00:00Z", "2016-12-31T00:/0:00Z",
		"2016-12-31T0é:00:00Z", "2016-12-31T0é00:00Z", "2016-12-31T00:00:0é", "2016-12-31T00:00:00é", "2016-12-31Té:00:00Z", "é016-12-31T00:00:00Z", "é16-12-31T00:00:00Z", "2016-12-3éT00:00:00Z", "2016-12-3é0:00:00Z", "2016-12-31T00：00:00Z", "2016-12-31T0０:00Z", "2016-12-31T００:00:00Z", "２０１６-12-31T00:00:00Z", "2016-12-31T٠٠:00:00Z", "2016-12-31T٠:00:00Z", "2016-12-31T00:00:00\xff", "2016-12-31\xff00:00:00Z", "2016-12-31T\xb0\xb0:00:00Z", "\xff\xff\xff\xff-12-31T00:00:00Z",
		"0000000000000000000000", "00000000000000000000", "--------------------", "ZZZZZZZZZZZZZZZZZZZZ", "TTTTTTTTTTTTTTTTTTTT", "::::::::::::::::::::", "                    ", "\x00\x00\x00\x00\x00\x00\x00\x00\x00\x00\x00\x00\x00\x00\x00\x00\x00\x00\x00\x00", "2016-12-31T23:59:60Z2016-12-31T23:59:60Z", "Z06:95:32T13-21-6102",
	} {
		isNone(t, s)
	}
}

// P22.1: each byte in each place of a text, in its stead, and as one too many; each byte left out; each text begun.
func TestEachByteInEachPlace(t *testing.T) {
	for _, text := range some() {
		reads(t, text)
		for place := 0; place <= len(text); place++ {
			if place < len(text) {
				isNone(t, text[:place])
				isNone(t, text[place+1:])
				isNone(t, text[:place]+text[place+1:])
			}
			for b := range 256 {
				one := string([]byte{byte(b)})
				isNone(t, text[:place]+one+text[place:])
				if place < len(text) {
					reads(t, text[:place]+one+text[place+1:])
				}
			}
		}
	}
}

// P22.1: two bytes in each pair of places of a text.
func TestTwoBytesInEachPair(t *testing.T) {
	bytes := "0123456789-:TZtz +.\x00/\xb0\xff"
	for _, text := range some() {
		for i := range len(text) {
			for j := range i {
				for a := range len(bytes) {
					for b := range len(bytes) {
						reads(t, text[:j]+bytes[b:b+1]+text[j+1:i]+bytes[a:a+1]+text[i+1:])
					}
				}
			}
		}
	}
}

// P22.1: what is no digit, though it would reckon as one of another number.
func TestBytesThatReckonAsOthers(t *testing.T) {
	// Tens and ones that come to the same number: 1 and 10 behind the nought's byte are 20, and the like.
	for place := range 19 {
		for a := range 256 {
			for b := range 256 {
				text := []byte("2016-12-21T20:20:20Z")
				text[place], text[place+1] = byte(a), byte(b)
				reads(t, string(text))
			}
		}
	}
}

// P22.1: texts of each length, of digits, of bytes of a text, and of a text that goes on.
func TestTextsOfEachLength(t *testing.T) {
	for count := range 300 {
		reads(t, strings.Repeat("0", count))
		reads(t, strings.Repeat("2016-12-31T23:59:60Z", count))
		reads(t, strings.Repeat("0", count)+"2016-12-31T23:59:60Z")
		reads(t, "2016-12-31T23:59:60Z"+strings.Repeat("0", count))
		reads(t, "2016-12-31T23:59:60"+strings.Repeat("0", count)+"Z")
		reads(t, "2016-12-31T"+strings.Repeat("0", count)+"23:59:60Z")
	}
	isNone(t, strings.Repeat("2016-12-31T23:59:60Z", 1<<14))
}

// P22.1, P22.2: drawn texts.
func TestDrawnTexts(t *testing.T) {
	s := spread(5)
	for range 200000 {
		text := []byte(written(second(s.between(0, 9999), s.between(0, 13), s.between(0, 32), s.between(0, 24), s.between(0, 60), s.between(0, 61))))
		for range s.between(0, 2) {
			text[s.between(0, len(text)-1)] = "0123456789-:TZ tz"[s.between(0, 16)]
		}
		reads(t, string(text))
	}
}

// P22.2: what a table tells of comes to its text, and back.
func TestTextsOfWhatTablesTell(t *testing.T) {
	for _, p := range tables() {
		r := p.table(t)
		for _, l := range append(p.leaps, row(p.start, 1, 1, 1)...) {
			for tai := 86400*l.Day + 86400 - 70; tai < 86400*l.Day+86400+170; tai++ {
				u, e := Of(r, tai)
				if e != 0 {
					continue
				}
				is(t, u, written(u))
			}
		}
	}
}
