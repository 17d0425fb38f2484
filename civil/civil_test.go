package civil

import (
	"math"
	"strings"
	"testing"
)

const (
	least    = math.MinInt
	greatest = math.MaxInt
)

// spread tells numbers that look as if drawn, the same ones every time.
type spread uint64

func (s *spread) next() uint64 {
	*s = *s*6364136223846793005 + 1442695040888963407
	return uint64(*s >> 11)
}

// between is one of the numbers from low to high, both meant.
func (s *spread) between(low, high int) int {
	return low + int(s.next()%uint64(high-low+1))
}

// edges are numbers that are no year, month or day.
func edges() []int {
	return []int{least, least + 1, -1 << 32, 1 - 1<<32, 5 - 1<<32, -719162, -65536, -10000, -9999, -2000, -400, -256, -255, -251, -31, -12, -4, -2, -1, 0, 1 << 32, 1<<32 + 1, 1<<32 + 5, 1<<32 + 2000, greatest - 1, greatest}
}

// lengths are the days of the months of a year that isn't a long one.
var lengths = []int{31, 28, 31, 30, 31, 30, 31, 31, 30, 31, 30, 31}

// long: whether a year has a 29th of February.
func long(year int) bool {
	if year%400 == 0 {
		return true
	}
	return year%4 == 0 && year%100 != 0
}

// length is how many days a month of a year has.
func length(year, month int) int {
	if month == 2 && long(year) {
		return 29
	}
	return lengths[month-1]
}

// can: whether the rules let a date be.
func can(d Date) bool {
	if d.Year < 1 || d.Year > 9999 || d.Month < 1 || d.Month > 12 {
		return false
	}
	return d.Day >= 1 && d.Day <= length(d.Year, d.Month)
}

// behind is the day behind a date.
func behind(d Date) Date {
	switch {
	case d.Day < length(d.Year, d.Month):
		return Date{d.Year, d.Month, d.Day + 1}
	case d.Month < 12:
		return Date{d.Year, d.Month + 1, 1}
	}
	return Date{d.Year + 1, 1, 1}
}

// padded tells a number in so many digits, letter by letter.
func padded(n, width int) string {
	b := make([]byte, width)
	for i := width - 1; i >= 0; i-- {
		b[i] = "0123456789"[n%10]
		n /= 10
	}
	return string(b)
}

// written is the text of three numbers, whether they are a date or not.
func written(year, month, day int) string {
	return padded(year, 4) + "-" + padded(month, 2) + "-" + padded(day, 2)
}

// is fails, unless that is a date, and of that number and text, both ways.
func is(t testing.TB, d Date, number int, text string) {
	t.Helper()
	if !d.Good() {
		t.Fatalf("%v can't be", d)
	}
	if n, ok := d.Number(); n != number || !ok {
		t.Fatalf("%v: %d, %v; and not %d", d, n, ok, number)
	}
	if s := d.Text(); s != text {
		t.Fatalf("%v: %q, and not %q", d, s, text)
	}
	if x, ok := Of(number); x != d || !ok {
		t.Fatalf("%d: %v, %v; and not %v", number, x, ok, d)
	}
	if x, ok := Parse(text); x != d || !ok {
		t.Fatalf("%q: %v, %v; and not %v", text, x, ok, d)
	}
}

// isNone fails, unless that is no date.
func isNone(t testing.TB, d Date) {
	t.Helper()
	if d.Good() {
		t.Fatalf("%v can be", d)
	}
	if n, ok := d.Number(); n != 0 || ok {
		t.Fatalf("%v: %d, %v", d, n, ok)
	}
	if s := d.Text(); s != "" {
		t.Fatalf("%v: %q", d, s)
	}
}

// hasNone fails, unless no date has that number.
func hasNone(t testing.TB, number int) {
	t.Helper()
	if d, ok := Of(number); d != (Date{}) || ok {
		t.Fatalf("%d: %v, %v", number, d, ok)
	}
}

// saysNone fails, unless that is no date's text.
func saysNone(t testing.TB, s string) {
	t.Helper()
	if d, ok := Parse(s); d != (Date{}) || ok {
		t.Fatalf("%q: %v, %v", s, d, ok)
	}
}

// known is a date, its number, and its text.
type known struct {
	date   Date
	number int
	text   string
}

// some are such ones, told by hand.
var some = []known{
	// The first and the last ones, and those about the number 0.
	{Date{1, 1, 1}, -719162, "0001-01-01"},
	{Date{1, 1, 2}, -719161, "0001-01-02"},
	{Date{9999, 12, 30}, 2932895, "9999-12-30"},
	{Date{9999, 12, 31}, 2932896, "9999-12-31"},
	{Date{1969, 12, 30}, -2, "1969-12-30"},
	{Date{1969, 12, 31}, -1, "1969-12-31"},
	{Date{1970, 1, 1}, 0, "1970-01-01"},
	{Date{1970, 1, 2}, 1, "1970-01-02"},
	// The chapter's examples.
	{Date{1972, 1, 1}, 730, "1972-01-01"},
	{Date{2000, 2, 29}, 11016, "2000-02-29"},
	// February and March: of years that 4 divides and that it doesn't, that 100 divides, and that 400 does.
	{Date{1970, 2, 28}, 58, "1970-02-28"},
	{Date{1970, 3, 1}, 59, "1970-03-01"},
	{Date{1972, 2, 28}, 788, "1972-02-28"},
	{Date{1972, 2, 29}, 789, "1972-02-29"},
	{Date{1972, 3, 1}, 790, "1972-03-01"},
	{Date{1900, 2, 28}, -25509, "1900-02-28"},
	{Date{1900, 3, 1}, -25508, "1900-03-01"},
	{Date{2100, 2, 28}, 47540, "2100-02-28"},
	{Date{2100, 3, 1}, 47541, "2100-03-01"},
	{Date{2000, 2, 28}, 11015, "2000-02-28"},
	{Date{2000, 3, 1}, 11017, "2000-03-01"},
	{Date{400, 2, 28}, -573373, "0400-02-28"},
	{Date{400, 2, 29}, -573372, "0400-02-29"},
	{Date{400, 3, 1}, -573371, "0400-03-01"},
	// The first and last days of years and of months, with years of one, two, three and four digits.
	{Date{1, 12, 31}, -718798, "0001-12-31"},
	{Date{2, 1, 1}, -718797, "0002-01-01"},
	{Date{9, 9, 9}, -715989, "0009-09-09"},
	{Date{99, 12, 31}, -683004, "0099-12-31"},
	{Date{100, 1, 1}, -683003, "0100-01-01"},
	{Date{100, 12, 31}, -682639, "0100-12-31"},
	{Date{101, 1, 1}, -682638, "0101-01-01"},
	{Date{400, 12, 31}, -573066, "0400-12-31"},
	{Date{401, 1, 1}, -573065, "0401-01-01"},
	{Date{999, 12, 31}, -354286, "0999-12-31"},
	{Date{1000, 1, 1}, -354285, "1000-01-01"},
	{Date{1582, 10, 4}, -141438, "1582-10-04"},
	{Date{1582, 10, 15}, -141427, "1582-10-15"},
	{Date{1970, 12, 31}, 364, "1970-12-31"},
	{Date{1971, 1, 1}, 365, "1971-01-01"},
	{Date{1972, 12, 31}, 1095, "1972-12-31"},
	{Date{1973, 1, 1}, 1096, "1973-01-01"},
	{Date{1999, 12, 31}, 10956, "1999-12-31"},
	{Date{2000, 1, 1}, 10957, "2000-01-01"},
	{Date{2000, 1, 31}, 10987, "2000-01-31"},
	{Date{2000, 2, 1}, 10988, "2000-02-01"},
	{Date{2000, 10, 9}, 11239, "2000-10-09"},
	{Date{2000, 12, 31}, 11322, "2000-12-31"},
	{Date{2001, 1, 1}, 11323, "2001-01-01"},
	{Date{2016, 12, 31}, 17166, "2016-12-31"},
	{Date{2017, 1, 1}, 17167, "2017-01-01"},
}

// P20.1, P20.2
func TestDatesToldByHand(t *testing.T) {
	for _, k := range some {
		is(t, k.date, k.number, k.text)
	}
}

// P20.1: the ends of all days are told.
func TestLeastAndMost(t *testing.T) {
	if Least != -719162 || Most != 2932896 {
		t.Errorf("%d, %d", Least, Most)
	}
	// Told without a type, as the chapter has it.
	var narrow int32 = Least + Most
	if narrow != 2213734 {
		t.Error(narrow)
	}
}

// kinds are years that 4 divides and that it doesn't, that 100 divides, and that 400 does, and the first and last ones.
var kinds = []int{1, 2, 3, 4, 5, 8, 99, 100, 101, 200, 300, 399, 400, 401, 404, 800, 1000, 1582, 1600, 1700, 1896, 1900, 1904, 1970, 1972, 1999, 2000, 2001, 2004, 2023, 2024, 2096, 2100, 2104, 2400, 9600, 9900, 9996, 9998, 9999}

// P20.1: years about the first and the last one, months and days likewise, in all kinds of years.
func TestDatesThatCanBe(t *testing.T) {
	for _, d := range []Date{{0, 1, 1}, {0, 12, 31}, {0, 2, 29}, {10000, 1, 1}, {10000, 12, 31}, {10000, 2, 29}, {2000, 0, 1}, {2000, 13, 1}, {2000, 0, 31}, {2000, 13, 31}, {2000, 1, 0}, {2000, 12, 0}, {}} {
		isNone(t, d)
	}
	for _, year := range kinds {
		for month := -1; month <= 14; month++ {
			for day := -1; day <= 33; day++ {
				d := Date{year, month, day}
				if !can(d) {
					isNone(t, d)
				} else if !d.Good() {
					t.Fatalf("%v can't be", d)
				}
			}
		}
	}
}

// P20.1: the last day of each month, told by hand, and the one behind it.
func TestTheLastDayOfEachMonth(t *testing.T) {
	last := func(year, february int) {
		t.Helper()
		for i, day := range []int{31, february, 31, 30, 31, 30, 31, 31, 30, 31, 30, 31} {
			for _, d := range []Date{{year, i + 1, 1}, {year, i + 1, day}} {
				if !d.Good() || d.Text() != written(year, i+1, d.Day) {
					t.Errorf("%v: %v, %q", d, d.Good(), d.Text())
				}
			}
			isNone(t, Date{year, i + 1, 0})
			isNone(t, Date{year, i + 1, day + 1})
		}
	}
	for _, year := range []int{4, 96, 1972, 2024, 9996, 400, 1600, 2000, 9600} {
		last(year, 29)
	}
	for _, year := range []int{1, 2, 3, 1970, 2001, 2023, 9999, 100, 200, 300, 1700, 1800, 1900, 2100, 2200, 9900} {
		last(year, 28)
	}
}

// P20.1: each of the three numbers below 0, and at the type's ends, with the other two right, or not.
func TestDatesFarOff(t *testing.T) {
	for _, n := range edges() {
		for _, d := range []Date{{2000, 2, 29}, {1970, 1, 1}, {9999, 12, 31}, {1, 1, 1}, {1900, 2, 28}} {
			isNone(t, Date{n, d.Month, d.Day})
			isNone(t, Date{d.Year, n, d.Day})
			isNone(t, Date{d.Year, d.Month, n})
		}
		for _, x := range edges() {
			isNone(t, Date{n, x, 1})
			isNone(t, Date{n, 1, x})
			isNone(t, Date{1, n, x})
			isNone(t, Date{n, x, n})
		}
	}
	for _, n := range []int{13, 14, 24, 100, 256, 257, 258, 9999, 65537} {
		isNone(t, Date{2000, n, 1})
	}
	for _, n := range []int{32, 33, 59, 60, 256, 257, 366, 9999, 65537} {
		isNone(t, Date{2000, 1, n})
	}
	for _, n := range []int{10000, 10001, 10004, 12000, 20000, 65536, 65537, 67536} {
		isNone(t, Date{n, 1, 1})
		isNone(t, Date{n, 2, 29})
	}
}

// P20.1: numbers at the first and last days, one beyond, and at the type's ends.
func TestNumbers(t *testing.T) {
	for _, n := range []int{Least - 1, Least - 2, Least - 365, Least - 366, Least - 146097, 2 * Least, Most + 1, Most + 2, Most + 365, Most + 366, Most + 146097, 2 * Most, least, least + 1, least - Least, least - Least - 1, greatest + Least, greatest + Least + 1, -1 << 32, 1 << 32, Least - 1<<32, Most + 1<<32, 1 - 1<<32, 1<<32 + 1, 1 << 62, -1 << 62, greatest - 1, greatest} {
		hasNone(t, n)
	}
	var s spread = 201
	for range 10000 {
		hasNone(t, s.between(Most+1, 1<<60))
		hasNone(t, -s.between(-Least+1, 1<<60))
	}
}

// P20.1: what is told of a date that is none doesn't hang on what was told before.
func TestCallsChangeNothing(t *testing.T) {
	d := Date{2016, 12, 31}
	for range 3 {
		is(t, d, 17166, "2016-12-31")
		isNone(t, Date{2016, 13, 31})
		hasNone(t, Most+1)
		saysNone(t, "2016-13-31")
	}
	if d != (Date{Year: 2016, Month: 12, Day: 31}) {
		t.Error(d)
	}
}

// P20.1, P20.2: each day of all.
func TestAllDays(t *testing.T) {
	d, was := Date{1, 1, 1}, ""
	for n := Least; n <= Most; n++ {
		text := written(d.Year, d.Month, d.Day)
		is(t, d, n, text)
		if text <= was {
			t.Fatalf("%q behind %q", text, was)
		}
		was, d = text, behind(d)
	}
	if d != (Date{10000, 1, 1}) {
		t.Errorf("the day behind the last one is %v", d)
	}
}

// P20.2: of two dates the later one has the greater number, and the greater text.
func TestLaterDates(t *testing.T) {
	later := func(a, b Date) bool {
		if a.Year != b.Year {
			return a.Year > b.Year
		}
		if a.Month != b.Month {
			return a.Month > b.Month
		}
		return a.Day > b.Day
	}
	var s spread = 202
	draw := func() Date {
		year, month := s.between(1, 9999), s.between(1, 12)
		return Date{year, month, s.between(1, length(year, month))}
	}
	for range 200000 {
		a, b := draw(), draw()
		if s.between(0, 3) == 0 {
			b.Year, b.Day = a.Year, min(b.Day, 28)
		}
		x, isA := a.Number()
		y, isB := b.Number()
		if !isA || !isB || later(a, b) != (x > y) || later(b, a) != (x < y) || later(a, b) != (a.Text() > b.Text()) || later(b, a) != (a.Text() < b.Text()) {
			t.Fatalf("%v and %v: %d and %d, %q and %q", a, b, x, y, a.Text(), b.Text())
		}
	}
}

// P20.2: a year has 365 days, or 366, and 400 years have 146097.
func TestYears(t *testing.T) {
	first := func(year int) int {
		n, ok := Date{year, 1, 1}.Number()
		if !ok {
			t.Fatalf("year %d has no first day", year)
		}
		return n
	}
	for year := 1; year < 9999; year++ {
		want := 365
		if long(year) {
			want = 366
		}
		if got := first(year+1) - first(year); got != want {
			t.Fatalf("year %d has %d days, and not %d", year, got, want)
		}
	}
	for year := 1; year+400 <= 9999; year++ {
		if got := first(year+400) - first(year); got != 146097 {
			t.Fatalf("400 years from %d on have %d days", year, got)
		}
	}
}

// tells fails, unless a text is that of three numbers, if they are a date, or else none's.
func tells(t testing.TB, s string, year, month, day int) {
	t.Helper()
	d := Date{year, month, day}
	if !can(d) {
		saysNone(t, s)
		return
	}
	if got, ok := Parse(s); got != d || !ok {
		t.Fatalf("%q: %v, %v", s, got, ok)
	}
}

// P20.1: texts of digits that are no date, told by hand.
func TestTextsOfDatesThatCantBe(t *testing.T) {
	for _, s := range []string{
		"0000-00-00", "0000-01-01", "0000-12-31", "0000-02-29", "2000-00-01", "2000-13-01", "2000-99-01", "2000-01-00", "2000-01-32", "2000-12-32", "2000-01-99",
		"1900-02-29", "2100-02-29", "2001-02-29", "0100-02-29", "9999-02-29", "2000-02-30", "2024-02-30", "2000-02-31",
		"2000-04-31", "2000-06-31", "2000-09-31", "2000-11-31", "9999-99-99",
	} {
		saysNone(t, s)
	}
}

// P20.1: all texts of four, two and two digits, of some years; and of all years those of some days.
func TestTextsOfDigits(t *testing.T) {
	for _, year := range append([]int{0}, kinds...) {
		for month := range 100 {
			for day := range 100 {
				tells(t, written(year, month, day), year, month, day)
			}
		}
	}
	for year := range 10000 {
		for _, x := range [][2]int{{1, 1}, {2, 28}, {2, 29}, {2, 30}, {4, 31}, {12, 31}, {12, 32}, {0, 10}, {10, 0}, {13, 13}} {
			tells(t, written(year, x[0], x[1]), year, x[0], x[1])
		}
	}
}

// value is the number that digits tell; false: one of them is none.
func value(s string) (int, bool) {
	n := 0
	for i := range len(s) {
		at := strings.IndexByte("0123456789", s[i])
		if at < 0 {
			return 0, false
		}
		n = 10*n + at
	}
	return n, true
}

// P20.1: each byte in each of the ten places of some texts: letters, blanks, signs, strokes, bytes above 127 and digits.
func TestEachByteInEachPlace(t *testing.T) {
	for _, text := range []string{"1970-01-01", "2000-02-29", "0001-01-01", "9999-12-31", "1972-06-30", "2016-12-31", "1000-10-10"} {
		for i := range len(text) {
			for x := range 256 {
				b := []byte(text)
				b[i] = byte(x)
				s := string(b)
				year, isYear := value(s[:4])
				month, isMonth := value(s[5:7])
				day, isDay := value(s[8:])
				if !isYear || !isMonth || !isDay || s[4] != '-' || s[7] != '-' {
					saysNone(t, s)
					continue
				}
				tells(t, s, year, month, day)
			}
		}
	}
}

// P20.1: two bytes that are none of a text's, in each two places.
func TestTwoBytesInTwoPlaces(t *testing.T) {
	strange := []byte{0, ' ', '+', '-', '.', '/', ':', 'T', 'x', 127, 128, 0xb0, 0xc0, 0xff}
	for _, text := range []string{"1970-01-01", "2011-11-11"} {
		for i := range len(text) {
			for k := range i {
				for _, x := range strange {
					for _, y := range strange {
						b := []byte(text)
						b[i], b[k] = x, y
						if string(b) != text {
							saysNone(t, string(b))
						}
					}
				}
			}
		}
	}
}

// P20.1: letters of more than one byte, among them digits and strokes of other writings, and such whose last bits are those of a digit, or of the stroke.
func TestLettersOfSeveralBytes(t *testing.T) {
	letters := []rune{0x80, 0xb0, 0xb2, 0xe4, 0x12d, 0x130, 0x131, 0x139, 0x22d, 0x230, 0x660, 0x661, 0x669, 0x966, 0x1030, 0x2010, 0x2012, 0x2212, 0xfe63, 0xff0d, 0xff10, 0xff11, 0xff19, 0xfffd, 0x10030, 0x1002d, 0x1d7ce, 0x10ffff}
	for _, text := range []string{"1970-01-01", "2000-10-01"} {
		for _, r := range letters {
			// Once as long in letters as a text is, and once so in bytes, in each place.
			wide := len(string(r))
			for i := range len(text) {
				saysNone(t, text[:i]+string(r)+text[i+1:])
				saysNone(t, text[:i]+string(r)+text[i:])
				if i+wide <= len(text) {
					s := text[:i] + string(r) + text[i+wide:]
					if len(s) != len(text) {
						t.Fatalf("%q", s)
					}
					saysNone(t, s)
				}
			}
		}
		saysNone(t, strings.Repeat(string(rune(0x661)), 5))
		saysNone(t, strings.Repeat(string(rune(0xff11)), 10))
	}
}

// P20.1: a letter too few, in each place, or one too many.
func TestTextsOfOtherLengths(t *testing.T) {
	saysNone(t, "")
	for _, k := range some {
		text := k.text
		for i := range len(text) {
			saysNone(t, text[:i])
			saysNone(t, text[i+1:])
			saysNone(t, text[:i]+text[i+1:])
			for _, more := range []string{"0", "1", "9", "-", " ", "+", "x", "\n", "\x00", "\xff"} {
				saysNone(t, text[:i]+more+text[i:])
			}
		}
		for _, more := range []string{"0", "1", "-", " ", "\n", "\r", "\x00", "Z", "T", "-01", "T00:00:00Z", "\xff", text} {
			saysNone(t, text+more)
			saysNone(t, more+text)
		}
	}
	for _, s := range []string{
		"0", "-", "1970", "1970-01", "1970-1-1", "1970-01-1", "1970-1-01", "1970-1-001", "1970-001-1", "1970-001-01", "1970-01-001", "970-01-01", "970-001-01", "970-01-001", "70-01-01", "1-1-1", "10000-01-01", "01970-01-01", "1970-011-1", "19700101", "1970101", "0019700101",
		"----------", "0000000000", "          ", "-1-01-01", "-001-01-01", "+001-01-01", "-1970-01-01", "+1970-01-01", "1970--1-01", "1970-+1-01", "1970-01--1", "1970-01-+1", "1970- 1- 1", " 970-01-01", "1_70-01-01", "0x70-01-01", "1e03-01-01",
		strings.Repeat("1970-01-01", 2), strings.Repeat("0", 1<<16), strings.Repeat("1970-01-01-", 1<<10),
	} {
		saysNone(t, s)
	}
}

// P20.1: the strokes elsewhere, or something else in their places.
func TestStrokesElsewhere(t *testing.T) {
	for _, s := range []string{
		"19-70-0101", "197-0-01-01", "1970-0101-", "-1970-0101", "-197001-01", "19700-1-01", "1970-010-1", "197-001-01", "1970010-1-", "19700101--", "--19700101", "01-01-1970", "1-1-197000", "1970-01010", "197000-001",
		"1970/01/01", "1970.01.01", "1970 01 01", "1970:01:01", "1970_01_01", "1970+01+01", "1970001001", "1970101101", "1970-01/01", "1970/01-01", "1970-01 01", "1970\x0001-01", "1970\xad01-01", "1970-01\xad01",
	} {
		saysNone(t, s)
	}
	// Every two places, with digits in the other ones.
	ones := "11111111"
	for i := range 10 {
		for k := i + 1; k < 10; k++ {
			s := ones[:i] + "-" + ones[i:k-1] + "-" + ones[k-1:]
			if i == 4 && k == 7 {
				is(t, Date{1111, 11, 11}, -313430, s)
				continue
			}
			saysNone(t, s)
		}
	}
}

// P20.2: whatever is read is told as it was, of texts drawn from a text's letters.
func TestTextsThatAreDrawn(t *testing.T) {
	var s spread = 203
	read := 0
	for range 300000 {
		b := []byte(written(s.between(0, 9999), s.between(0, 14), s.between(0, 33)))
		if s.between(0, 2) == 0 {
			b[s.between(0, 9)] = "0123456789-- +x\x80\xff"[s.between(0, 16)]
		}
		if s.between(0, 9) == 0 {
			b = b[:s.between(0, 10)]
		}
		text := string(b)
		d, ok := Parse(text)
		if !ok {
			if d != (Date{}) {
				t.Fatalf("%q: %v", text, d)
			}
			continue
		}
		read++
		if !can(d) || written(d.Year, d.Month, d.Day) != text {
			t.Fatalf("%q: %v", text, d)
		}
	}
	if read < 100000 {
		t.Errorf("%d texts were read", read)
	}
}
