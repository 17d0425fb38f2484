package event

import (
	"math"
	"slices"
	"strings"
	"testing"

	"angelus/api"
	"angelus/source"
)

const (
	least    = math.MinInt
	greatest = math.MaxInt
	most     = 16 // so many events a log has room for
)

// spread tells numbers that look as if drawn, the same ones every time.
type spread uint64

func (s *spread) next() uint64 {
	*s = *s*6364136223846793005 + 1442695040888963407
	return uint64(*s >> 11)
}

// between is one of the numbers from low to high, both meant.
func (s *spread) between(low, high int) int {
	return low + int(s.next()%uint64(high-low+1))
}

// of is one of some numbers.
func (s *spread) of(numbers ...int) int {
	return numbers[s.between(0, len(numbers)-1)]
}

// edges are numbers at their ends, about 0, and about those from which on times can't be.
func edges() []int {
	return []int{least, least + 1, -1<<50 - 1, -1 << 50, -1 << 32, -1000, -64, -2, -1, 0, 1, 2, 16, 63, 64, 1000, 1 << 32, 1<<50 - 1, 1 << 50, 1<<50 + 1, greatest - 1, greatest}
}

// letters are all those of which labels are made.
const letters = "abcdefghijklmnopqrstuvwxyz0123456789_"

// can: whether the rules let there be such a label, told by its bytes.
func can(label string) bool {
	if label == "" || len(label) > 12 {
		return false
	}
	for place := range len(label) {
		if strings.IndexByte(letters, label[place]) < 0 {
			return false
		}
	}
	return true
}

// bad are texts that are no labels.
func bad() []string {
	return []string{"", " ", "-", "A", "Door", "dooR", "a b", " a", "a ", "é", "aé", "\x00", "a\x00", "\xff", "a\n", strings.Repeat("a", 13), strings.Repeat("a", 1000)}
}

// plain is a log that is a list of all events since it was new, or cleared, and how many of them were taken.
type plain struct {
	none  bool
	all   []Event
	taken int
}

// list is what is there.
func (p *plain) list() []Event {
	return p.all[p.taken:]
}

func (p *plain) tag(label string, local int, when source.Answer) (int, api.Errno) {
	switch {
	case p.none:
		return 0, api.ErrNil
	case !can(label):
		return 0, api.ErrArg
	case len(p.list()) >= most:
		return 0, api.ErrFull
	}
	p.all = append(p.all, Event{ID: len(p.all) + 1, Label: label, Local: local, When: when})
	return len(p.all), api.OK
}

func (p *plain) take() (Event, bool) {
	if len(p.list()) == 0 {
		return Event{}, false
	}
	p.taken++
	return p.all[p.taken-1], true
}

func (p *plain) clear() {
	p.all, p.taken = nil, 0
}

// told is what a log's All goes over.
func told(l *Log) []Event {
	var list []Event
	for e := range l.All() {
		list = append(list, e)
	}
	return list
}

// holds fails, unless a log has just what the plain one has.
func holds(t testing.TB, l *Log, p *plain) {
	if got := told(l); !slices.Equal(got, p.list()) {
		t.Fatalf("All: %v, not %v", got, p.list())
	}
	if got := l.Len(); got != len(p.list()) {
		t.Fatalf("Len: %d, not %d", got, len(p.list()))
	}
}

// tags, takes and clears do so to both, and fail, unless they answer alike, and have the same behind it.
func tags(t testing.TB, l *Log, p *plain, label string, local int, when source.Answer) api.Errno {
	n, e := l.Tag(label, local, when)
	if want, code := p.tag(label, local, when); n != want || e != code {
		t.Fatalf("%v: Tag(%q, %d, %v): %d, %d; and not %d, %d", p.list(), label, local, when, n, e, want, code)
	}
	holds(t, l, p)
	return e
}

func takes(t testing.TB, l *Log, p *plain) bool {
	got, ok := l.Take()
	if want, has := p.take(); got != want || ok != has {
		t.Fatalf("%v: Take: %v, %v; and not %v, %v", p.list(), got, ok, want, has)
	}
	holds(t, l, p)
	return ok
}

func clears(t testing.TB, l *Log, p *plain) {
	l.Clear()
	p.clear()
	holds(t, l, p)
}

// fresh is a new log, and a plain one.
func fresh(t testing.TB) (*Log, *plain) {
	l, p := New(), new(plain)
	if l == nil {
		t.Fatal("New: nil")
	}
	holds(t, l, p)
	return l, p
}

// some is an answer of which no field is zero, another one for each number.
func some(n int) source.Answer {
	return source.Answer{Time: 10*n + 5, Hops: n%63 + 1, Whose: source.Whose{Root: n%64 + 1, Boot: uint16(n + 1)}, Way: source.Way(n%3 + 1)}
}

// name is a label, another one for each number below 37, of 1 letter to 12.
func name(n int) string {
	return strings.Repeat(letters[n%37:n%37+1], n%12+1)
}

// fills tags so many events.
func fills(t testing.TB, l *Log, p *plain, count int) {
	for range count {
		n := len(p.all) + 1
		if e := tags(t, l, p, name(n), n+100, some(n)); e != api.OK {
			t.Fatalf("%v: Tag: %d", p.list(), e)
		}
	}
}

// drains takes so many events.
func drains(t testing.TB, l *Log, p *plain, count int) {
	for range count {
		if !takes(t, l, p) {
			t.Fatal("Take: false")
		}
	}
}

// turned is a log with so many events, from which so many were taken.
func turned(t testing.TB, gone, count int) (*Log, *plain) {
	l, p := fresh(t)
	for range gone {
		fills(t, l, p, 1)
		drains(t, l, p, 1)
	}
	fills(t, l, p, count)
	return l, p
}

// states goes over logs with each count of events, from each place of a row on.
func states(t testing.TB, each func(l *Log, p *plain)) {
	for gone := range most + 1 {
		for count := range most + 1 {
			l, p := turned(t, gone, count)
			each(l, p)
		}
	}
}

// bare fails, unless there is nothing, as often as it is asked.
func bare(t testing.TB, l *Log, p *plain) {
	for range 3 {
		if takes(t, l, p) || len(p.list()) != 0 {
			t.Fatalf("%v", p.list())
		}
	}
}

// P24.1: of a nil log there is nothing, and nothing is tagged, whatever it is.
func TestANilLog(t *testing.T) {
	var l *Log
	p := &plain{none: true}
	for _, label := range append(bad(), "a", "door", "a_9", "abcdefghijkl") {
		for _, local := range edges() {
			if e := tags(t, l, p, label, local, some(3)); e != api.ErrNil {
				t.Fatalf("Tag(%q, %d): %d", label, local, e)
			}
			bare(t, l, p)
		}
	}
	clears(t, l, p)
	bare(t, l, p)
	all := l.All()
	if all == nil {
		t.Fatal("All: nil")
	}
	for range 2 {
		all(func(e Event) bool {
			t.Fatalf("%v", e)
			return true
		})
	}
}

// P24.1: the chapter's example.
func TestTheChaptersExample(t *testing.T) {
	l := New()
	if n, e := l.Tag("door", 0, source.Answer{}); n != 1 || e != api.OK {
		t.Fatalf("door: %d, %d", n, e)
	}
	if n, e := l.Tag("Door", 0, source.Answer{}); n != 0 || e != api.ErrArg {
		t.Fatalf("Door: %d, %d", n, e)
	}
	if n, e := l.Tag("gate_2", 0, source.Answer{}); n != 2 || e != api.OK {
		t.Fatalf("gate_2: %d, %d", n, e)
	}
}

// P24.1: a new log is empty, and one of its own.
func TestNew(t *testing.T) {
	l, p := fresh(t)
	bare(t, l, p)
	fills(t, l, p, 1)
	if p.all[0].ID != 1 {
		t.Fatalf("%v", p.all)
	}
	other, q := fresh(t)
	bare(t, other, q)
	if other == l {
		t.Fatal("New: the same log again")
	}
	holds(t, l, p)
	if MaxLabel != 12 {
		t.Fatalf("MaxLabel: %d", MaxLabel)
	}
}

// good fails, unless Good answers what the rules say, and so does Tag.
func good(t testing.TB, label string) bool {
	want := can(label)
	if got := Good(label); got != want {
		t.Fatalf("Good(%q): %v", label, got)
	}
	n, e := New().Tag(label, 7, some(1))
	if want && (n != 1 || e != api.OK) || !want && (n != 0 || e != api.ErrArg) {
		t.Fatalf("Tag(%q): %d, %d", label, n, e)
	}
	return want
}

// P24.1: of the texts of one byte just those of a letter, a digit and the underline are labels.
func TestGoodOfOneByte(t *testing.T) {
	count := 0
	for b := range 256 {
		if good(t, string([]byte{byte(b)})) {
			count++
		}
	}
	if count != 26+10+1 {
		t.Fatalf("%d", count)
	}
	for _, label := range []string{"a", "b", "m", "y", "z", "0", "1", "8", "9", "_"} {
		if !Good(label) {
			t.Fatalf("%q", label)
		}
	}
	for _, label := range []string{"`", "{", "/", ":", "^", "@", "[", "A", "Z", " ", "-", ".", "\t", "\n", "\x00", "\x7f", "\x80", "\xff"} {
		if Good(label) {
			t.Fatalf("%q", label)
		}
	}
}

// P24.1: all texts of two bytes.
func TestGoodOfTwoBytes(t *testing.T) {
	for first := range 256 {
		for second := range 256 {
			label := string([]byte{byte(first), byte(second)})
			if got, want := Good(label), can(label); got != want {
				t.Fatalf("Good(%q): %v", label, got)
			}
		}
	}
}

// P24.1: a label has from 1 to 12 letters.
func TestGoodOfEachLength(t *testing.T) {
	for _, letter := range []string{"a", "k", "z", "0", "5", "9", "_"} {
		for count := range 1100 {
			if got, want := good(t, strings.Repeat(letter, count)), count >= 1 && count <= 12; got != want {
				t.Fatalf("%d of %s: %v", count, letter, got)
			}
		}
	}
	for _, count := range []int{1 << 16, 1<<16 + 1, 1<<16 + 12, 1 << 20} {
		good(t, strings.Repeat("a", count))
	}
}

// P24.1: no other byte may stand anywhere.
func TestGoodOfEachByteInEachPlace(t *testing.T) {
	for _, label := range []string{"a", "z_", "0a9", "door_", "a_9z0b", "abcdefghijk", "abcdefghijkl", "____________", "012345678901", "abcdefghijklm"} {
		for place := range len(label) {
			for b := range 256 {
				text := []byte(label)
				text[place] = byte(b)
				good(t, string(text))
			}
		}
		// And ahead of it, and behind it, beside all that there is.
		for place := range len(label) + 1 {
			for b := range 256 {
				good(t, label[:place]+string([]byte{byte(b)})+label[place:])
			}
		}
	}
}

// P24.1: letters of more than one byte are none of a label, whatever their number's last bits say, nor are bytes that are no letter.
func TestGoodOfOtherLetters(t *testing.T) {
	others := []string{"é", "ä", "ß", "ſ", "K", "ı", "İ", "ａ", "ｚ", "０", "＿", "а", "α", "٣", "\u0661", "š", "š", "\u0161", "\u0130", "\u015f", "\u0261", "\u0430", "\u1061", "\uff41", "\ufffd", "\U00010061", "\U0001005f", "\U00100061", "\U0001d41a", "\U0001d7d8", "a\u0301", "\u200b", "\u00a0", "\ufeff", "\xc1\xa1", "\xc1\xbf", "\xe0\x81\xa1", "\xf0\x80\x81\xa1", "\xc3", "\xa9", "\xed\xa0\x80", "\xf4\x90\x80\x80", "\xfe", "\xff\xff"}
	for _, other := range others {
		for count := 1; count <= 13; count++ {
			if good(t, strings.Repeat(other, count)) {
				t.Fatalf("%d of %q", count, other)
			}
		}
		for _, label := range []string{"a", "door", "abcdefghijk", "abcdefghijkl"} {
			for place := range len(label) + 1 {
				if good(t, label[:place]+other+label[place:]) || place < len(label) && good(t, label[:place]+other+label[place+1:]) {
					t.Fatalf("%q in %q at %d", other, label, place)
				}
			}
		}
	}
	// Letters of which the last eight, seven or sixteen bits are those of a label's letter.
	for _, letter := range letters {
		for _, more := range []rune{1 << 7, 1 << 8, 1 << 9, 1 << 12, 1 << 16, 1 << 20} {
			if good(t, string([]rune{letter + more})) || good(t, string([]rune{'a', letter + more})) {
				t.Fatalf("%q and %d more", letter, more)
			}
		}
	}
}

// P24.1: drawn texts of a label's letters, and of others.
func TestGoodOfDrawnTexts(t *testing.T) {
	s := spread(1)
	labels := 0
	for range 100000 {
		text := make([]byte, s.between(0, 14))
		for place := range text {
			text[place] = letters[s.between(0, len(letters)-1)]
			if s.between(0, 40) == 0 {
				text[place] = byte(s.between(0, 255))
			}
		}
		if good(t, string(text)) {
			labels++
		}
	}
	if labels < 20000 || labels > 90000 {
		t.Fatalf("%d", labels)
	}
}

// P24.1: there is room for 16 events, and for no more; numbers begin with 1.
func TestTagUpToAFullLog(t *testing.T) {
	l, p := fresh(t)
	for n := 1; n <= 16; n++ {
		if got, e := l.Tag(name(n), n+100, some(n)); got != n || e != api.OK {
			t.Fatalf("Tag %d: %d, %d", n, got, e)
		}
		p.tag(name(n), n+100, some(n))
		holds(t, l, p)
	}
	for range 5 {
		if n, e := l.Tag("a", 1, some(1)); n != 0 || e != api.ErrFull {
			t.Fatalf("Tag of a full one: %d, %d", n, e)
		}
		holds(t, l, p)
	}
	if api.MaxEvents != 16 {
		t.Fatalf("MaxEvents: %d", api.MaxEvents)
	}
}

// P24.1: what can't be tagged is told ahead of that there is no room, and leaves each log as it was, its next number, too.
func TestWhatIsRefusedChangesNothing(t *testing.T) {
	states(t, func(l *Log, p *plain) {
		for _, label := range bad() {
			if e := tags(t, l, p, label, 5, some(7)); e != api.ErrArg {
				t.Fatalf("Tag(%q): %d", label, e)
			}
		}
		full := len(p.list()) == most
		if full {
			for _, local := range []int{least, 0, greatest} {
				if e := tags(t, l, p, "a", local, some(7)); e != api.ErrFull {
					t.Fatalf("Tag of a full one: %d", e)
				}
			}
			drains(t, l, p, 1)
		}
		// The number is the one behind that of the last event that was tagged.
		want := len(p.all) + 1
		if n, e := l.Tag("next", 1, some(2)); n != want || e != api.OK {
			t.Fatalf("Tag: %d, %d; and not %d", n, e, want)
		}
		p.tag("next", 1, some(2))
		holds(t, l, p)
		drains(t, l, p, len(p.list()))
		bare(t, l, p)
	})
}

// P24.1: each field of an event is as it was given, beside a number; nothing is asked of times, hops, roots and ways.
func TestEachFieldAsItWasGiven(t *testing.T) {
	one := func(label string, local int, when source.Answer) {
		l, p := fresh(t)
		tags(t, l, p, label, local, when)
		want := Event{ID: 1, Label: label, Local: local, When: when}
		for e := range l.All() {
			if e != want {
				t.Fatalf("All: %v, not %v", e, want)
			}
		}
		if e, ok := l.Take(); e != want || !ok {
			t.Fatalf("Take: %v, not %v", e, want)
		}
	}
	for _, n := range edges() {
		one("a", n, source.Answer{})
		one("a", 0, source.Answer{Time: n})
		one("a", 0, source.Answer{Hops: n})
		one("a", 0, source.Answer{Whose: source.Whose{Root: n}})
		one("a", 0, source.Answer{Way: source.Way(n)})
		one("door", 7, source.Answer{Time: n, Hops: 2, Whose: source.Whose{Root: 3, Boot: 4}, Way: source.Asked})
		one("door", n, source.Answer{Time: -n, Hops: n, Whose: source.Whose{Root: n, Boot: 4}, Way: source.Way(n)})
	}
	for boot := range 65536 {
		if boot < 300 || boot > 65200 || boot%251 == 0 {
			one("a", 0, source.Answer{Whose: source.Whose{Boot: uint16(boot)}})
		}
	}
	for _, way := range []source.Way{source.None, source.Own, source.Flooded, source.Asked} {
		one("a", 0, source.Answer{Way: way})
	}
	for count := 1; count <= 12; count++ {
		for place := range letters {
			one(strings.Repeat("_", count-1)+letters[place:place+1], 1, some(place))
		}
	}
	one("abcdefghijkl", 1, some(0))
	one("0123456789_z", 1, some(0))
}

// P24.1: the same may happen again and again; each time it is another event.
func TestTheSameEventAgain(t *testing.T) {
	l, p := fresh(t)
	for range most {
		tags(t, l, p, "door", 5, some(1))
	}
	for place, e := range told(l) {
		if (e != Event{ID: place + 1, Label: "door", Local: 5, When: some(1)}) {
			t.Fatalf("%v", e)
		}
	}
	drains(t, l, p, most)
	bare(t, l, p)
}

// P24.1, P24.2: from each state, what is taken is the eldest, and is there no more; behind the last one there is none.
func TestTakeInEachState(t *testing.T) {
	states(t, func(l *Log, p *plain) {
		want := p.list()
		for place, e := range want {
			if got, ok := l.Take(); got != e || !ok {
				t.Fatalf("Take: %v, %v; and not %v", got, ok, e)
			}
			p.take()
			if got := told(l); !slices.Equal(got, want[place+1:]) || l.Len() != len(want)-place-1 {
				t.Fatalf("behind Take: %v, %d", got, l.Len())
			}
		}
		bare(t, l, p)
		fills(t, l, p, most)
		if e := tags(t, l, p, "a", 1, some(1)); e != api.ErrFull {
			t.Fatalf("Tag: %d", e)
		}
	})
}

// P24.1, P24.2: a log that is filled and emptied many times over, each time from another place on.
func TestFilledAndEmptiedAgainAndAgain(t *testing.T) {
	for more := range most {
		l, p := fresh(t)
		for range 20 {
			fills(t, l, p, more)
			drains(t, l, p, more)
			fills(t, l, p, most)
			if e := tags(t, l, p, "a", 1, some(1)); e != api.ErrFull {
				t.Fatalf("Tag: %d", e)
			}
			drains(t, l, p, most)
			bare(t, l, p)
		}
	}
}

// P24.1, P24.2: a log in which so many events stay, while one comes and one goes.
func TestOneComesAndOneGoes(t *testing.T) {
	for stay := range most {
		l, p := turned(t, 0, stay)
		for range 5*most + 1 {
			fills(t, l, p, 1)
			drains(t, l, p, 1)
		}
		drains(t, l, p, stay)
		bare(t, l, p)
	}
}

// P24.1: All goes over all, in order, as often as it is gone over, and nothing goes by that.
func TestAllInEachState(t *testing.T) {
	states(t, func(l *Log, p *plain) {
		all := l.All()
		for range 3 {
			var list []Event
			for e := range all {
				list = append(list, e)
			}
			if !slices.Equal(list, p.list()) {
				t.Fatalf("All: %v, not %v", list, p.list())
			}
			holds(t, l, p)
		}
		drains(t, l, p, len(p.list()))
		bare(t, l, p)
	})
}

// P24.1: a loop over All may be left behind each event, and begins with the eldest again.
func TestAllLeftAtAnyTime(t *testing.T) {
	states(t, func(l *Log, p *plain) {
		all := l.All()
		for count := 1; count <= len(p.list()); count++ {
			var list []Event
			for e := range all {
				list = append(list, e)
				if len(list) == count {
					break
				}
			}
			if !slices.Equal(list, p.list()[:count]) {
				t.Fatalf("All, left behind %d: %v", count, list)
			}
			holds(t, l, p)
		}
	})
}

// P24.1: one loop over All within another.
func TestAllWithinAll(t *testing.T) {
	l, p := turned(t, 11, 9)
	at := 0
	for outer := range l.All() {
		if outer != p.list()[at] {
			t.Fatalf("%d: %v", at, outer)
		}
		holds(t, l, p)
		at++
	}
	if at != 9 {
		t.Fatalf("%d", at)
	}
}

// P24.1: behind Clear there is nothing, and the next number is 1.
func TestClearInEachState(t *testing.T) {
	states(t, func(l *Log, p *plain) {
		for range 3 {
			clears(t, l, p)
			bare(t, l, p)
		}
		for n := 1; n <= most; n++ {
			if got, e := l.Tag(name(n), n+100, some(n)); got != n || e != api.OK {
				t.Fatalf("Tag behind Clear: %d, %d; and not %d", got, e, n)
			}
			p.tag(name(n), n+100, some(n))
			holds(t, l, p)
		}
		if e := tags(t, l, p, "a", 1, some(1)); e != api.ErrFull {
			t.Fatalf("Tag: %d", e)
		}
		clears(t, l, p)
		fills(t, l, p, 1)
		drains(t, l, p, 1)
		bare(t, l, p)
	})
}

// P24.1: two logs know nothing of one another.
func TestTwoLogs(t *testing.T) {
	for gone := range most + 1 {
		one, p := turned(t, gone, 5)
		two, q := turned(t, most-gone, 9)
		fills(t, one, p, 11)
		holds(t, two, q)
		drains(t, two, q, 9)
		holds(t, one, p)
		clears(t, one, p)
		fills(t, two, q, 3)
		holds(t, one, p)
		fills(t, one, p, 2)
		clears(t, two, q)
		holds(t, one, p)
		bare(t, two, q)
		drains(t, one, p, 2)
		fills(t, two, q, most)
		bare(t, one, p)
	}
}

// P24.1: what was taken, or gone over, is as it was, whatever the log does then; and what is made of it changes nothing in the log.
func TestEventsStayAsTheyAre(t *testing.T) {
	l, p := turned(t, 7, most)
	listed := told(l)
	were := slices.Clone(p.list())
	first, _ := l.Take()
	p.take()
	changed := told(l)
	for place := range changed {
		changed[place] = Event{ID: -1, Label: "none"}
	}
	holds(t, l, p)
	for range 3 * most {
		fills(t, l, p, 1)
		drains(t, l, p, 1)
	}
	clears(t, l, p)
	fills(t, l, p, most)
	if first != were[0] || !slices.Equal(listed, were) {
		t.Fatalf("%v, %v; and not %v", first, listed, were)
	}
}

// P24.1: a label is as it was when it was given, whatever becomes of the bytes that it was made of.
func TestALabelOfBytes(t *testing.T) {
	l, p := fresh(t)
	text := []byte("door")
	tags(t, l, p, string(text), 1, some(1))
	copy(text, "XXXX")
	if e, ok := l.Take(); !ok || e.Label != "door" {
		t.Fatalf("%v", e)
	}
}

// P24.1: asking changes nothing.
func TestAskingChangesNothing(t *testing.T) {
	states(t, func(l *Log, p *plain) {
		for range 3 {
			if l.Len() != len(p.list()) || !Good("a") || Good("A") {
				t.Fatal("asked again, it is otherwise")
			}
			for range l.All() {
				break
			}
			holds(t, l, p)
		}
		for len(p.list()) > 0 {
			drains(t, l, p, 1)
		}
		bare(t, l, p)
	})
}

// P24.2: numbers rise by one over many hundreds of events, also behind calls that were refused, behind Take, and from 1 behind Clear.
func TestNumbersRise(t *testing.T) {
	l := New()
	for life := range 3 {
		next, taken := 1, 1
		for round := range 400 {
			for range round%most + 1 {
				if n, e := l.Tag("Door", 1, some(1)); n != 0 || e != api.ErrArg {
					t.Fatalf("Tag: %d, %d", n, e)
				}
				n, e := l.Tag("door", next, some(next))
				if l.Len() == most && e == api.ErrFull && n == 0 {
					continue
				}
				if n != next || e != api.OK {
					t.Fatalf("%d, %d: Tag: %d, %d; and not %d", life, round, n, e, next)
				}
				next++
			}
			for range (round*7)%most + 1 {
				e, ok := l.Take()
				if !ok && taken == next {
					continue
				}
				if (e != Event{ID: taken, Label: "door", Local: taken, When: some(taken)}) || !ok {
					t.Fatalf("%d, %d: Take: %v, %v; and not %d", life, round, e, ok, taken)
				}
				taken++
			}
		}
		if next < 2000 {
			t.Fatalf("%d", next)
		}
		l.Clear()
	}
}

// act is one that is done to a log: 0 tags a label, 1 what is none, 2 takes, 3 clears, 4 goes over a part.
func act(t testing.TB, l *Log, p *plain, what, n int) {
	switch what {
	case 0:
		tags(t, l, p, name(n), n, some(n))
	case 1:
		tags(t, l, p, bad()[n%len(bad())], n, some(n))
	case 2:
		takes(t, l, p)
	case 3:
		clears(t, l, p)
	case 4:
		for range l.All() {
			break
		}
		holds(t, l, p)
	}
}

// P24.1, P24.2: all orders of six acts of an empty log, of a full one, and of one with but one place left, whose row goes round.
func TestAllOrdersOfSixActs(t *testing.T) {
	for _, begin := range [][2]int{{0, 0}, {16, 1}, {14, 16}, {9, 15}} {
		for order := range 5 * 5 * 5 * 5 * 5 * 5 {
			l, p := New(), new(plain)
			for n := range begin[0] + begin[1] {
				l.Tag(name(n), n, some(n))
				p.tag(name(n), n, some(n))
				if n < begin[0] {
					l.Take()
					p.take()
				}
			}
			for n := range 6 {
				act(t, l, p, order%5, n)
				order /= 5
			}
		}
	}
}

// P24.1, P24.2: drawn acts, which fill the log, empty it, or go to and fro.
func TestDrawnActs(t *testing.T) {
	s := spread(24)
	full, empty := 0, 0
	for range 300 {
		l, p := fresh(t)
		likely := s.between(20, 80)
		for n := range 400 {
			switch drawn := s.between(0, 99); {
			case drawn < 5:
				act(t, l, p, s.of(1, 4), n)
			case s.between(0, 199) == 0:
				act(t, l, p, 3, n)
			case drawn < likely:
				when := source.Answer{Time: s.of(edges()...), Hops: s.of(edges()...), Whose: source.Whose{Root: s.of(edges()...), Boot: uint16(s.next())}, Way: source.Way(s.between(0, 3))}
				if tags(t, l, p, name(s.between(0, 36)), s.of(edges()...), when) == api.ErrFull {
					full++
				}
			default:
				if !takes(t, l, p) {
					empty++
				}
			}
		}
	}
	if full < 1000 || empty < 1000 {
		t.Fatalf("%d times full, %d times empty", full, empty)
	}
}

// P24.2: what is tagged is taken in that order, each once, however many stand between both.
func TestEachIsTakenOnce(t *testing.T) {
	s := spread(7)
	l := New()
	var given, got []Event
	for range 20000 {
		if s.between(0, 1) == 0 {
			local, when := s.between(-5, 5), some(s.between(0, 100))
			if n, e := l.Tag("a_1", local, when); e == api.OK {
				given = append(given, Event{ID: n, Label: "a_1", Local: local, When: when})
			}
		} else if e, ok := l.Take(); ok {
			got = append(got, e)
		}
	}
	got = append(got, told(l)...)
	if !slices.Equal(got, given) || len(got) < 5000 {
		t.Fatalf("%d were tagged, %d taken", len(given), len(got))
	}
	for place, e := range got {
		if e.ID != place+1 {
			t.Fatalf("%d: %v", place, e)
		}
	}
}
