package leap

import (
	"iter"
	"math"
	"slices"
	"strings"
	"testing"
	"time"

	"angelus/api"
)

const (
	least    = math.MinInt
	greatest = math.MaxInt
	firstDay = -719162
	lastDay  = 2932896
)

// spread tells numbers that look as if drawn, the same ones every time.
type spread uint64

func (s *spread) next() uint64 {
	*s = *s*6364136223846793005 + 1442695040888963407
	return uint64(*s >> 11)
}

// between is one of the numbers from low to high, both meant.
func (s *spread) between(low, high int) int {
	return low + int(s.next()%uint64(high-low+1))
}

// plain is what a table tells.
type plain struct {
	start, ahead, end int
	leaps             []Leap
}

// dated is the date of a day, by the library's calendar.
func dated(day int) string {
	return time.Unix(int64(day)*86400, 0).UTC().Format(time.DateOnly)
}

// signed is the sign of a Step that can be.
func signed(step int) string {
	return []string{"-1", "", "+1"}[step+1]
}

// counted tells a number of one or two digits.
func counted(n int) string {
	digits := "0123456789"
	if n < 10 {
		return digits[n : n+1]
	}
	return digits[n/10:n/10+1] + digits[n%10:n%10+1]
}

// text is what stands in such a table's text.
func (p plain) text() string {
	lines := []string{"start " + dated(p.start) + " " + counted(p.ahead)}
	for _, l := range p.leaps {
		lines = append(lines, "leap "+dated(l.Day)+" "+signed(l.Step))
	}
	return strings.Join(append(lines, "end "+dated(p.end), ""), "\n")
}

// days are those at which something may change, the ones beside them, and the type's ends.
func (p plain) days() []int {
	list := []int{least, least + 1, -1 << 32, 1 << 32, greatest - 1, greatest}
	for _, day := range []int{p.start, p.end, 0, firstDay, lastDay} {
		list = append(list, day-2, day-1, day, day+1, day+2)
	}
	for _, l := range p.leaps {
		list = append(list, l.Day-1, l.Day, l.Day+1, l.Day+1<<32, l.Day-1<<32)
	}
	return list
}

// aheadOf is by how much TAI is ahead as a day begins, and whether that is told.
func (p plain) aheadOf(day int) (int, bool) {
	if day < p.start || day > p.end-1 {
		return 0, false
	}
	n := p.ahead
	for _, l := range p.leaps {
		if day >= l.Day+1 {
			n += l.Step
		}
	}
	return n, true
}

// stepOf is by how much a day is longer.
func (p plain) stepOf(day int) int {
	for _, l := range p.leaps {
		if l.Day == day {
			return l.Step
		}
	}
	return 0
}

// firstOf are so many things that are gone over, at most.
func firstOf(all iter.Seq[Leap], count int) []Leap {
	var list []Leap
	if count == 0 {
		return list
	}
	for l := range all {
		list = append(list, l)
		if len(list) == count {
			break
		}
	}
	return list
}

// tells fails, unless a table tells just that.
func tells(t testing.TB, r *Table, p plain) {
	t.Helper()
	if r == nil {
		t.Fatalf("no table of %v", p)
	}
	if start, end := r.Range(); start != p.start || end != p.end {
		t.Fatalf("Range: %d, %d, not those of %v", start, end, p)
	}
	for _, day := range p.days() {
		want, known := p.aheadOf(day)
		if n, ok := r.Ahead(day); n != want || ok != known {
			t.Fatalf("Ahead(%d) of %v: %d, %v, not %d, %v", day, p, n, ok, want, known)
		}
		if n := r.Step(day); n != p.stepOf(day) {
			t.Fatalf("Step(%d) of %v: %d", day, p, n)
		}
	}
	all := r.All()
	for range 2 {
		if list := slices.Collect(all); !slices.Equal(list, p.leaps) {
			t.Fatalf("All: %v, not %v", list, p.leaps)
		}
	}
	if s := r.Text(); s != p.text() {
		t.Fatalf("Text: %q, not %q", s, p.text())
	}
}

// makes fails, unless Make answers a table that tells just that.
func makes(t testing.TB, p plain) *Table {
	t.Helper()
	r, code := Make(p.start, p.ahead, p.end, p.leaps...)
	if code != api.OK {
		t.Fatalf("%v: %d", p, code)
	}
	tells(t, r, p)
	return r
}

// refuses fails, unless Make answers that error, and no table.
func refuses(t testing.TB, want api.Errno, p plain) {
	t.Helper()
	if r, code := Make(p.start, p.ahead, p.end, p.leaps...); r != nil || code != want {
		t.Fatalf("%v: %v, %d, not %d", p, r, code, want)
	}
}

// why is the error of such a table; each rule is asked apart from the others.
func (p plain) why() api.Errno {
	isDay := func(n int) bool { return firstDay <= n && n <= lastDay }
	good := isDay(p.start) && isDay(p.end) && p.start < p.end && 0 <= p.ahead && p.ahead <= 99
	rises := true
	for i, l := range p.leaps {
		good = good && (l.Step == 1 || l.Step == -1)
		rises = rises && p.start <= l.Day && l.Day < p.end && (i == 0 || p.leaps[i-1].Day < l.Day)
	}
	switch {
	case !good:
		return api.ErrArg
	case len(p.leaps) > 64:
		return api.ErrFull
	case !rises:
		return api.ErrOrder
	}
	return api.OK
}

// is fails, unless Make answers what the rules say.
func is(t testing.TB, p plain) {
	t.Helper()
	if code := p.why(); code != api.OK {
		refuses(t, code, p)
		return
	}
	makes(t, p)
}

// row is so many leaps, from a day on, so many days apart, of both Steps.
func row(first, count, apart int) []Leap {
	var list []Leap
	for i := range count {
		list = append(list, Leap{first + i*apart, []int{1, 1, -1, 1, -1}[i%5]})
	}
	return list
}

// same is so many leaps of one Step, on days one behind the other.
func same(first, count, step int) []Leap {
	var list []Leap
	for i := range count {
		list = append(list, Leap{first + i, step})
	}
	return list
}

// with is a list in which one thing is another.
func with[T any](list []T, place int, x T) []T {
	list = slices.Clone(list)
	list[place] = x
	return list
}

// P21.1: the chapter's example, and that of a table that was drawn by hand.
func TestTablesToldByHand(t *testing.T) {
	r, code := Make(730, 10, 1096, Leap{911, 1})
	if code != api.OK || r == nil {
		t.Fatal(r, code)
	}
	for _, c := range [][2]int{{730, 10}, {731, 10}, {910, 10}, {911, 10}, {912, 11}, {913, 11}, {1095, 11}} {
		if n, ok := r.Ahead(c[0]); n != c[1] || !ok {
			t.Errorf("%d: %d, %v", c[0], n, ok)
		}
	}
	for _, day := range []int{729, 1096, 1097, 0, -1, least, greatest} {
		if n, ok := r.Ahead(day); n != 0 || ok {
			t.Errorf("%d: %d, %v", day, n, ok)
		}
	}
	if s := r.Text(); s != "start 1972-01-01 10\nleap 1972-06-30 +1\nend 1973-01-01\n" {
		t.Errorf("%q", s)
	}
	tells(t, r, plain{730, 10, 1096, []Leap{{911, 1}}})
	r, code = Make(17166, 7, 17532, Leap{17166, -1}, Leap{17167, 1}, Leap{17531, -1})
	if code != api.OK || r == nil {
		t.Fatal(r, code)
	}
	for _, c := range [][3]int{{17166, 7, -1}, {17167, 6, 1}, {17168, 7, 0}, {17530, 7, 0}, {17531, 7, -1}} {
		if n, ok := r.Ahead(c[0]); n != c[1] || !ok || r.Step(c[0]) != c[2] {
			t.Errorf("%d: %d, %v, %d", c[0], n, ok, r.Step(c[0]))
		}
	}
	if s := r.Text(); s != "start 2016-12-31 7\nleap 2016-12-31 -1\nleap 2017-01-01 +1\nleap 2017-12-31 -1\nend 2018-01-01\n" {
		t.Errorf("%q", s)
	}
	if list := slices.Collect(r.All()); !slices.Equal(list, []Leap{{17166, -1}, {17167, 1}, {17531, -1}}) {
		t.Errorf("%v", list)
	}
}

// P21.1: a nil table.
func TestANilTable(t *testing.T) {
	var none *Table
	for range 2 {
		if start, end := none.Range(); start != 0 || end != 0 {
			t.Errorf("%d, %d", start, end)
		}
		for _, day := range []int{least, least + 1, firstDay, -1, 0, 1, 730, lastDay, greatest - 1, greatest} {
			if n, ok := none.Ahead(day); n != 0 || ok {
				t.Errorf("Ahead(%d): %d, %v", day, n, ok)
			}
			if n := none.Step(day); n != 0 {
				t.Errorf("Step(%d): %d", day, n)
			}
		}
		all := none.All()
		if all == nil {
			t.Fatal("All: nil")
		}
		for range 2 {
			for l := range all {
				t.Errorf("%v", l)
			}
		}
		if s := none.Text(); s != "" {
			t.Errorf("%q", s)
		}
	}
}

// P21.1: start and end at the edges of days, one beyond, and at the type's ends.
func TestStartsAndEnds(t *testing.T) {
	for _, p := range []plain{
		{firstDay, 0, lastDay, nil}, {firstDay, 99, lastDay, nil}, {firstDay, 0, firstDay + 1, nil}, {lastDay - 1, 0, lastDay, nil}, {firstDay + 1, 0, lastDay - 1, nil},
		{0, 0, 1, nil}, {-1, 0, 0, nil}, {-1, 0, 1, nil}, {730, 10, 731, nil}, {730, 10, 732, nil},
	} {
		makes(t, p)
	}
	days := []int{least, least + 1, -1 << 32, 2 * firstDay, firstDay - 2, firstDay - 1, firstDay, firstDay + 1, -730, -1, 0, 1, 729, 730, 731, lastDay - 1, lastDay, lastDay + 1, lastDay + 2, 2 * lastDay, 1 << 32, 1<<32 + 730, greatest - 1, greatest}
	for _, start := range days {
		for _, end := range days {
			for _, ahead := range []int{-1, 0, 10, 99, 100} {
				is(t, plain{start, ahead, end, nil})
			}
		}
	}
	// Told by hand: start at end, behind it, and just ahead of it.
	for _, end := range []int{firstDay + 1, -1, 0, 1, 730, lastDay - 1, lastDay} {
		refuses(t, api.ErrArg, plain{end, 10, end, nil})
		makes(t, plain{end - 1, 10, end, nil})
		if end < lastDay {
			refuses(t, api.ErrArg, plain{end + 1, 10, end, nil})
		}
		refuses(t, api.ErrArg, plain{lastDay + 1, 10, end, nil})
		refuses(t, api.ErrArg, plain{firstDay - 1, 10, end, nil})
	}
	refuses(t, api.ErrArg, plain{firstDay, 10, firstDay, nil})
	refuses(t, api.ErrArg, plain{firstDay, 10, firstDay - 1, nil})
	refuses(t, api.ErrArg, plain{lastDay, 10, lastDay + 1, nil})
	refuses(t, api.ErrArg, plain{least, 10, greatest, nil})
}

// P21.1: ahead at both ends, one beyond, at the type's ends, and all between.
func TestAheads(t *testing.T) {
	for ahead := 0; ahead <= 99; ahead++ {
		makes(t, plain{730, ahead, 1096, []Leap{{911, 1}}})
		makes(t, plain{730, ahead, 1096, []Leap{{911, -1}}})
	}
	for _, ahead := range []int{least, least + 1, -1 << 32, 10 - 1<<32, -100, -99, -10, -2, -1, 100, 101, 109, 110, 256, 266, 1 << 32, 1<<32 + 10, greatest - 1, greatest} {
		refuses(t, api.ErrArg, plain{730, ahead, 1096, nil})
		refuses(t, api.ErrArg, plain{730, ahead, 1096, []Leap{{911, 1}}})
	}
}

// P21.1: Steps that can be and that can't, in every place.
func TestSteps(t *testing.T) {
	for _, count := range []int{1, 2, 3, 7, 63, 64} {
		list := row(1000, count, 3)
		for place := range list {
			for _, step := range []int{1, -1} {
				makes(t, plain{730, 10, 9999, with(list, place, Leap{list[place].Day, step})})
			}
			for _, step := range []int{0, 2, -2, 3, -3, 10, 255, 256, 257, 1<<32 + 1, 1<<32 - 1, -1 << 32, least, least + 1, greatest - 1, greatest} {
				refuses(t, api.ErrArg, plain{730, 10, 9999, with(list, place, Leap{list[place].Day, step})})
			}
		}
	}
}

// P21.1: no leap, one, 64, one more, and many more.
func TestHowManyLeaps(t *testing.T) {
	for count := range 65 {
		makes(t, plain{730, 10, 9999, row(730, count, 7)})
		makes(t, plain{730, 99, 730 + count + 1, same(730, count, 1)})
		makes(t, plain{730, 0, 730 + count + 1, same(730, count, -1)})
	}
	for _, count := range []int{65, 66, 128, 129, 256, 320, 1000, 1 << 16} {
		refuses(t, api.ErrFull, plain{730, 10, lastDay, row(730, count, 1)})
	}
	// TAI may be behind, and ahead by more than 99, behind some leaps.
	r := makes(t, plain{0, 0, 65, same(0, 64, -1)})
	if n, ok := r.Ahead(64); n != -64 || !ok {
		t.Errorf("%d, %v", n, ok)
	}
	r = makes(t, plain{0, 99, 65, same(0, 64, 1)})
	if n, ok := r.Ahead(64); n != 163 || !ok {
		t.Errorf("%d, %v", n, ok)
	}
}

// P21.1: leaps on start, on the day ahead of end, beyond both, equal, and such as fall.
func TestTheOrderOfLeaps(t *testing.T) {
	for _, days := range [][]int{{100}, {101}, {198}, {199}, {100, 101}, {100, 199}, {198, 199}, {100, 101, 102}, {100, 150, 199}, {150, 151, 152}} {
		p := plain{100, 10, 200, nil}
		for i, day := range days {
			p.leaps = append(p.leaps, Leap{day, 1 - i%2*2})
		}
		makes(t, p)
	}
	for _, days := range [][]int{
		{99}, {98}, {0}, {-100}, {200}, {201}, {1 << 32}, {150 + 1<<32}, {150 - 1<<32}, {least}, {least + 1}, {greatest}, {greatest - 1}, {firstDay}, {lastDay}, {firstDay - 1}, {lastDay + 1},
		{100, 100}, {150, 150}, {199, 199}, {150, 149}, {199, 100}, {101, 100}, {100, 99}, {99, 100}, {199, 200}, {200, 201}, {98, 99}, {150, greatest}, {least, 150}, {greatest, least}, {150, least},
		{100, 150, 150}, {100, 100, 150}, {150, 100, 199}, {100, 199, 150}, {100, 150, 200}, {99, 150, 199}, {199, 150, 100}, {100, 150, 100}, {150, 151, 151}, {100, 200, 150}, {100, 99, 150},
	} {
		for _, step := range []int{1, -1} {
			p := plain{100, 10, 200, nil}
			for _, day := range days {
				p.leaps = append(p.leaps, Leap{day, step})
			}
			refuses(t, api.ErrOrder, p)
		}
	}
	// At the first and the last days of all.
	makes(t, plain{firstDay, 0, firstDay + 1, []Leap{{firstDay, 1}}})
	makes(t, plain{lastDay - 1, 0, lastDay, []Leap{{lastDay - 1, -1}}})
	makes(t, plain{firstDay, 0, lastDay, []Leap{{firstDay, -1}, {lastDay - 1, 1}}})
	refuses(t, api.ErrOrder, plain{firstDay, 0, lastDay, []Leap{{firstDay - 1, 1}}})
	refuses(t, api.ErrOrder, plain{firstDay, 0, lastDay, []Leap{{lastDay, 1}}})
	refuses(t, api.ErrOrder, plain{firstDay, 0, lastDay, []Leap{{least, 1}}})
	// Of 64 leaps one that is equal to the one ahead of it, or beyond an end, in each place.
	list := row(100, 64, 1)
	makes(t, plain{100, 10, 164, list})
	refuses(t, api.ErrOrder, plain{100, 10, 163, list})
	refuses(t, api.ErrOrder, plain{101, 10, 164, list})
	for place := range list {
		for _, day := range []int{least, 99, 164, greatest} {
			refuses(t, api.ErrOrder, plain{100, 10, 164, with(list, place, Leap{day, 1})})
		}
		if place > 0 {
			refuses(t, api.ErrOrder, plain{100, 10, 164, with(list, place, list[place-1])})
		}
	}
}

// P21.1: where several errors apply, the first one is answered.
func TestWhichErrorMakeAnswers(t *testing.T) {
	many, falling := row(730, 65, 1), row(730, 65, 1)
	slices.Reverse(falling)
	for place := range many {
		refuses(t, api.ErrArg, plain{730, 10, 9999, with(many, place, Leap{many[place].Day, 0})})
		refuses(t, api.ErrArg, plain{730, 10, 9999, with(falling, place, Leap{falling[place].Day, 2})})
	}
	refuses(t, api.ErrFull, plain{730, 10, 9999, many})
	refuses(t, api.ErrFull, plain{730, 10, 9999, falling})
	refuses(t, api.ErrFull, plain{730, 10, 731, many})
	refuses(t, api.ErrFull, plain{9998, 10, 9999, many})
	refuses(t, api.ErrFull, plain{730, 10, 9999, slices.Repeat([]Leap{{800, 1}}, 65)})
	refuses(t, api.ErrFull, plain{730, 10, 9999, slices.Repeat([]Leap{{least, 1}}, 1000)})
	for _, list := range [][]Leap{many, falling, {{911, 0}}, {{729, 1}}, {{9999, 1}}, {{911, 1}, {911, 1}}} {
		for _, p := range []plain{{firstDay - 1, 10, 9999, list}, {730, 10, lastDay + 1, list}, {730, -1, 9999, list}, {730, 100, 9999, list}, {730, 10, 730, list}, {730, 10, 729, list}} {
			refuses(t, api.ErrArg, p)
		}
	}
	for _, list := range [][]Leap{{{729, 0}}, {{9999, 2}}, {{911, 1}, {911, 0}}, {{911, 0}, {911, 1}}, {{912, 1}, {911, -2}}, {{729, 1}, {911, 0}}, {{911, 0}, {9999, 1}}} {
		refuses(t, api.ErrArg, plain{730, 10, 9999, list})
	}
}

// P21.1: all small tables.
func TestAllSmallTables(t *testing.T) {
	var leaps []Leap
	for day := -1; day <= 4; day++ {
		for step := -1; step <= 2; step++ {
			leaps = append(leaps, Leap{day, step})
		}
	}
	for start := -1; start <= 3; start++ {
		for end := -1; end <= 4; end++ {
			is(t, plain{start, 3, end, nil})
			for _, a := range leaps {
				is(t, plain{start, 3, end, []Leap{a}})
				for _, b := range leaps {
					is(t, plain{start, 3, end, []Leap{a, b}})
					for _, c := range leaps {
						is(t, plain{start, 3, end, []Leap{a, b, c}})
					}
				}
			}
		}
	}
}

// draw is a table that is drawn, with some leaps.
func (s *spread) draw(count int) plain {
	p := plain{start: s.between(firstDay, lastDay-1000000), ahead: s.between(0, 99)}
	apart := []int{1, 2, 400, 15000}[s.between(0, 3)]
	day := p.start - 1
	for range count {
		day += s.between(1, apart)
		p.leaps = append(p.leaps, Leap{day, 1 - 2*s.between(0, 1)})
	}
	p.end = max(day, p.start) + s.between(1, apart)
	return p
}

// P21.1, P21.2: tables that are drawn, as they are, and with something else in them.
func TestDrawnTables(t *testing.T) {
	var s spread = 211
	for range 3000 {
		p := s.draw(s.between(0, 64))
		reads(t, makes(t, p).Text(), p)
		switch s.between(0, 4) {
		case 0:
			p.start += s.between(-1, 800)
		case 1:
			p.end -= s.between(-1, 800)
		case 2:
			p.ahead += s.between(-99, 99)
		case 3:
			p.leaps = append(p.leaps, Leap{p.end - s.between(-1, 2), s.between(-1, 1)})
		default:
			if len(p.leaps) > 1 {
				i, k := s.between(0, len(p.leaps)-1), s.between(0, len(p.leaps)-1)
				p.leaps[i], p.leaps[k] = p.leaps[k], p.leaps[i]
			}
		}
		is(t, p)
	}
}

// P21.1: what is handed to Make is neither changed nor kept.
func TestLeapsThatAreHandedIn(t *testing.T) {
	for _, count := range []int{0, 1, 2, 64} {
		room := row(1000, 70, 2)
		was := slices.Clone(room)
		list := room[:count]
		p := plain{730, 10, 9999, slices.Clone(list)}
		r, code := Make(p.start, p.ahead, p.end, list...)
		if code != api.OK || !slices.Equal(room, was) {
			t.Fatalf("%d, %v", code, room)
		}
		tells(t, r, p)
		if !slices.Equal(room, was) {
			t.Fatalf("%v", room)
		}
		for i := range room {
			room[i] = Leap{-1, 7}
		}
		tells(t, r, p)
		// Another one of the same list knows nothing of the first.
		copy(room, row(2000, 70, 1))
		other := makes(t, plain{730, 20, 9999, room[:count]})
		tells(t, r, p)
		tells(t, other, plain{730, 20, 9999, row(2000, count, 1)})
	}
	// One that is refused stays as it was, too.
	list := []Leap{{5, 1}, {4, -1}, {3, 2}}
	was := slices.Clone(list)
	refuses(t, api.ErrArg, plain{0, 0, 9, list})
	refuses(t, api.ErrOrder, plain{0, 0, 9, list[:2]})
	if !slices.Equal(list, was) {
		t.Errorf("%v", list)
	}
}

// P21.1: leaps are gone over in order, left at any time, gone over again, and while they are gone over.
func TestAll(t *testing.T) {
	for _, count := range []int{0, 1, 2, 3, 5, 63, 64} {
		p := plain{730, 10, 9999, row(800, count, 5)}
		r := makes(t, p)
		all := r.All()
		for left := range count + 2 {
			for range 2 {
				if list, want := firstOf(all, left), p.leaps[:min(left, count)]; !slices.Equal(list, want) {
					t.Fatalf("%v, not %v", list, want)
				}
			}
		}
		place := 0
		for l := range all {
			if l != p.leaps[place] || !slices.Equal(slices.Collect(all), p.leaps) || !slices.Equal(slices.Collect(r.All()), p.leaps) {
				t.Fatalf("%d: %v", place, l)
			}
			if _, ok := r.Ahead(l.Day); !ok || r.Step(l.Day) != l.Step {
				t.Fatalf("%d: %v", place, l)
			}
			place++
		}
		if place != count {
			t.Fatalf("%d of %d", place, count)
		}
		// Nothing more is told to who said that it is enough.
		calls := 0
		all(func(Leap) bool {
			calls++
			return false
		})
		if calls != min(count, 1) {
			t.Fatalf("%d calls", calls)
		}
		tells(t, r, p)
	}
}

// P21.1: each day of whole tables.
func TestEachDay(t *testing.T) {
	var s spread = 212
	for count := range 65 {
		p := s.draw(count)
		p.start = min(p.start, p.end-3000)
		if p.end-p.start > 5000 {
			p.start = p.end - 5000
			p.leaps = slices.DeleteFunc(p.leaps, func(l Leap) bool { return l.Day < p.start })
		}
		r := makes(t, p)
		n := p.ahead
		for day := p.start; day < p.end; day++ {
			if got, ok := r.Ahead(day); got != n || !ok {
				t.Fatalf("Ahead(%d) of %v: %d, %v", day, p, got, ok)
			}
			step := p.stepOf(day)
			if got := r.Step(day); got != step {
				t.Fatalf("Step(%d) of %v: %d", day, p, got)
			}
			// The next day begins with what this one had more.
			n += step
		}
	}
}

// P21.1: the leaps of the world, from 1972 to 2016, and what they come to.
func TestTheWorldsLeaps(t *testing.T) {
	lines := "start 1972-01-01 10\n"
	for _, date := range []string{
		"1972-06-30", "1972-12-31", "1973-12-31", "1974-12-31", "1975-12-31", "1976-12-31", "1977-12-31", "1978-12-31", "1979-12-31", "1981-06-30", "1982-06-30", "1983-06-30", "1985-06-30", "1987-12-31",
		"1989-12-31", "1990-12-31", "1992-06-30", "1993-06-30", "1994-06-30", "1995-12-31", "1997-06-30", "1998-12-31", "2005-12-31", "2008-12-31", "2012-06-30", "2015-06-30", "2016-12-31",
	} {
		lines += "leap " + date + " +1\n"
	}
	lines += "end 2027-01-01\n"
	r, line, code := Parse(lines)
	if code != api.OK || line != 0 || r.Text() != lines {
		t.Fatal(line, code)
	}
	for _, c := range [][3]int{{730, 10, 0}, {911, 10, 1}, {912, 11, 0}, {10957, 32, 0}, {13148, 32, 1}, {13149, 33, 0}, {17165, 36, 0}, {17166, 36, 1}, {17167, 37, 0}, {20818, 37, 0}} {
		if n, ok := r.Ahead(c[0]); n != c[1] || !ok || r.Step(c[0]) != c[2] {
			t.Errorf("%d: %d, %v, %d", c[0], n, ok, r.Step(c[0]))
		}
	}
	for _, day := range []int{729, 20819, 20820} {
		if n, ok := r.Ahead(day); n != 0 || ok {
			t.Errorf("%d: %d, %v", day, n, ok)
		}
	}
}
