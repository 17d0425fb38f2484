package anchor

import (
	"strings"
	"testing"

	"angelus/api"
	"angelus/civil"
	"angelus/frame"
	"angelus/leap"
	"angelus/source"
	"angelus/utc"
)

// ties are anchors of times and seconds at the edges, and of some between.
func ties() []frame.Anchor {
	var list []frame.Anchor
	for _, at := range []int{0, 1, 500, 999, 1000, 1001, 5000, 5999, 1 << 32, top / 2, top - 1001, top - 1000, top - 999, top - 1, top} {
		for _, tai := range []int{0, 1, 5, 100, 999, 1000, 86400*17166 + 36, 1 << 32, top / 1000, top/1000 + 1, top - top/1000 - 1, top - top/1000, top - 1000, top - 1, top} {
			list = append(list, frame.Anchor{From: 9, Seq: 500, Root: 2, Boot: 7, Global: at, Tai: tai})
		}
	}
	return list
}

// near are times about those at which an anchor's seconds begin, and about all edges.
func near(a frame.Anchor) []int {
	list := edges()
	for _, seconds := range []int{-1 << 40, -100000, -1001, -1000, -999, -10, -3, -2, -1, 0, 1, 2, 3, 10, 999, 1000, 1001, 100000, 1 << 40} {
		for _, off := range []int{-2, -1, 0, 1, 2, 499, 500} {
			list = append(list, a.Global+1000*seconds+off)
		}
	}
	return list
}

// P23.1: around an anchor, and at all edges, whatever is tied to whatever.
func TestTai(t *testing.T) {
	for _, a := range ties() {
		b, p := book(t, a)
		for _, at := range near(a) {
			isTai(t, b, p, whose(a), at)
		}
		has(t, b, p)
	}
}

// P23.1: told by hand: rounded down, ahead of the anchor too; below 0, and above MaxTime.
func TestTaiToldByHand(t *testing.T) {
	for _, x := range []struct{ global, tai, at, seconds, ticks int }{
		{5000, 100, 5000, 100, 0}, {5000, 100, 5001, 100, 1}, {5000, 100, 5999, 100, 999}, {5000, 100, 6000, 101, 0}, {5000, 100, 7250, 102, 250},
		{5000, 100, 4999, 99, 999}, {5000, 100, 4001, 99, 1}, {5000, 100, 4000, 99, 0}, {5000, 100, 3999, 98, 999}, {5000, 100, 0, 95, 0}, {5000, 100, 1, 95, 1},
		{5500, 3, 0, -3, 500}, {5500, 3, 499, -3, 999}, {5500, 3, 500, -2, 0}, {5500, 0, 5499, -1, 999}, {0, 0, 0, 0, 0}, {0, 0, 999, 0, 999}, {0, 0, 1000, 1, 0},
		{0, 0, top, 1125899906842, 624}, {top, 0, 0, -1125899906843, 376}, {top, 0, top, 0, 0}, {top, 0, top - 1, -1, 999}, {top, top, top, top, 0}, {top, top, 0, top - 1125899906843, 376},
		{0, top, top, top + 1125899906842, 624}, {0, top, 999, top, 999}, {0, top, 1000, top + 1, 0},
	} {
		a := frame.Anchor{From: 9, Seq: 500, Root: 2, Boot: 7, Global: x.global, Tai: x.tai}
		b, _ := book(t, a)
		if m, e := b.Tai(whose(a), x.at); m != (Moment{Tai: x.seconds, Ticks: x.ticks}) || e != api.OK {
			t.Errorf("%v: %v, %d", x, m, e)
		}
	}
}

// P23.1: tick by tick, each of which is one behind the last one, over the anchor and far around it.
func TestTaiTickByTick(t *testing.T) {
	for _, a := range []frame.Anchor{{Root: 2, Global: 5000, Tai: 100}, {Root: 2, Global: 7777, Tai: 3}, {Root: 2, Global: 0, Tai: 0}, {Root: 2, Global: 1, Tai: top}} {
		b, _ := book(t, a)
		want, e := b.Tai(whose(a), 0)
		if e != api.OK {
			t.Fatal(e)
		}
		for at := range 20000 {
			m, e := b.Tai(whose(a), at)
			if m != want || e != api.OK {
				t.Fatalf("%v, %d: %v, %d; and not %v", a, at, m, e, want)
			}
			if at == a.Global && m != (Moment{Tai: a.Tai}) {
				t.Fatalf("%v: %v", a, m)
			}
			if want.Ticks++; want.Ticks == 1000 {
				want = Moment{Tai: want.Tai + 1}
			}
		}
	}
}

// P23.1: times that are none are ErrOver; just at both ends they are not.
func TestTimesThatAreNone(t *testing.T) {
	for _, a := range ties() {
		b, _ := book(t, a)
		for _, at := range edges() {
			m, e := b.Tai(whose(a), at)
			if (e == api.OK) != time(at) || e != api.OK && (e != api.ErrOver || m != (Moment{})) {
				t.Fatalf("%v, %d: %v, %d", a, at, m, e)
			}
		}
	}
}

// P23.1: of another root, another life, and both, whatever else is wrong with it: ahead of ErrOver, and of layer 22's errors.
func TestTimesOfOthers(t *testing.T) {
	r := table(t, 0, 0, 1000)
	for _, a := range []frame.Anchor{some, {Seq: 1}, {Seq: 1, Root: 63, Boot: 65535}, {Seq: 1, From: 3, Root: 4, Boot: 32768, Global: top, Tai: top}} {
		b, _ := book(t, a)
		for _, w := range strangers(whose(a)) {
			for _, n := range []int{least, -top - 1, -1, 0, a.Global, a.Tai, 5000, top, top + 1, greatest} {
				if m, e := b.Tai(w, n); m != (Moment{}) || e != api.ErrUnsync {
					t.Fatalf("%v: Tai(%v, %d): %v, %d", a, w, n, m, e)
				}
				if at, e := b.Time(w, n); at != 0 || e != api.ErrUnsync {
					t.Fatalf("%v: Time(%v, %d): %d, %d", a, w, n, at, e)
				}
				for _, x := range []*leap.Table{nil, r} {
					if u, k, e := b.Utc(x, w, n); u != (utc.Utc{}) || k != 0 || e != api.ErrUnsync {
						t.Fatalf("%v: Utc(%q, %v, %d): %v, %d, %d", a, x.Text(), w, n, u, k, e)
					}
				}
			}
		}
		if m, e := b.Tai(whose(a), a.Global); m != (Moment{Tai: a.Tai}) || e != api.OK {
			t.Fatalf("%v: %v, %d", a, m, e)
		}
	}
}

// P23.1: it goes by the root of the anchor, not by who sent it; and by the newest one alone.
func TestTheNewestAnchorAlone(t *testing.T) {
	first, next := some, frame.Anchor{From: 2, Seq: 501, Root: 5, Boot: 8, Global: 900, Tai: 40}
	b, p := book(t, first, next)
	for _, w := range []source.Whose{whose(first), {Root: 9, Boot: 7}, {Root: 2, Boot: 8}, {Root: 9, Boot: 8}, {Root: 5, Boot: 7}} {
		if m, e := b.Tai(w, 900); m != (Moment{}) || e != api.ErrUnsync {
			t.Fatalf("%v: %v, %d", w, m, e)
		}
	}
	asks(t, b, p)
	// The same root in the same life, tied otherwise.
	for _, global := range []int{0, 899, 901, top} {
		next.Seq, next.Global, next.Tai = next.Seq+1, global, next.Tai+17
		if !hears(t, b, p, next) {
			t.Fatalf("%v isn't heard", next)
		}
		asks(t, b, p)
		makes(t, b, p, 3, answer(next.Root, next.Boot, global/2), next.Tai+5)
		next.Seq++
		asks(t, b, p)
	}
}

// P23.1: of seconds at the edges and beyond, and about those at which the answer comes to its ends.
func TestTime(t *testing.T) {
	for _, a := range ties() {
		b, p := book(t, a)
		seconds := append(edges(), -top-2, top+2, greatest/1000, greatest/1000+1, least/1000, least/1000-1)
		for off := -1002; off <= 1002; off++ {
			if off < -3 && off > -998 || off > 3 && off < 998 {
				continue
			}
			seconds = append(seconds, a.Tai+off, a.Tai+off-a.Global/1000, a.Tai+off+(top-a.Global)/1000)
		}
		for _, tai := range seconds {
			isTimeOf(t, b, p, whose(a), tai)
		}
		has(t, b, p)
	}
}

// P23.1: told by hand: the seconds at which the answer is 0, and the last ones at which it is not above MaxTime; one less and one more.
func TestTimeToldByHand(t *testing.T) {
	for _, x := range []struct {
		global, tai, of, at int
		code                api.Errno
	}{
		{5000, 100, 100, 5000, api.OK}, {5000, 100, 102, 7000, api.OK}, {5000, 100, 99, 4000, api.OK}, {5000, 100, 95, 0, api.OK}, {5000, 100, 94, 0, api.ErrOver}, {5000, 100, 96, 1000, api.OK},
		{5000, 2, -3, 0, api.OK}, {5000, 2, -4, 0, api.ErrOver}, {5000, 2, -2, 1000, api.OK}, {999, 0, 0, 999, api.OK}, {999, 0, -1, 0, api.ErrOver}, {1000, 0, -1, 0, api.OK}, {1001, 0, -1, 1, api.OK},
		{0, 0, 0, 0, api.OK}, {0, 0, -1, 0, api.ErrOver}, {0, 0, 1, 1000, api.OK}, {0, 0, 1125899906842, top - 624, api.OK}, {0, 0, 1125899906843, 0, api.ErrOver},
		{624, 0, 1125899906842, top, api.OK}, {625, 0, 1125899906842, 0, api.ErrOver}, {625, 0, 1125899906841, top - 999, api.OK}, {624, 5, 1125899906847, top, api.OK}, {624, 5, 1125899906848, 0, api.ErrOver},
		{top, 0, 0, top, api.OK}, {top, 0, 1, 0, api.ErrOver}, {top, 0, -1, top - 1000, api.OK}, {top, 0, -1125899906842, 624, api.OK}, {top, 0, -1125899906843, 0, api.ErrOver},
		{0, top, top, 0, api.OK}, {0, top, top - 1, 0, api.ErrOver}, {0, top, top + 1, 0, api.ErrOver}, {top, top, top, top, api.OK}, {top, top, top - 1, top - 1000, api.OK}, {top, top, top - 1125899906842, 624, api.OK}, {top, top, top - 1125899906843, 0, api.ErrOver},
		{5000, top, top, 5000, api.OK}, {5000, top, top - 5, 0, api.OK}, {5000, top, top - 6, 0, api.ErrOver}, {5000, top, top + 1, 0, api.ErrOver}, {5000, top - 1, top, 6000, api.OK}, {5000, top - 1, top + 1, 0, api.ErrOver},
		{5000, 100, -top, 0, api.ErrOver}, {5000, 100, -top - 1, 0, api.ErrOver}, {5000, 100, top, 0, api.ErrOver}, {5000, 100, top + 1, 0, api.ErrOver}, {5000, 100, least, 0, api.ErrOver}, {5000, 100, greatest, 0, api.ErrOver},
	} {
		a := frame.Anchor{From: 9, Seq: 500, Root: 2, Boot: 7, Global: x.global, Tai: x.tai}
		b, _ := book(t, a)
		if at, e := b.Time(whose(a), x.of); at != x.at || e != x.code {
			t.Errorf("%v: %d, %d", x, at, e)
		}
	}
}

// P23.1: seconds so far off that their ticks would go round, and come to a time again.
func TestSecondsWhoseTicksGoRound(t *testing.T) {
	b, _ := book(t, some)
	// 1000 times 2^61 is a multiple of 2^64.
	for _, far := range []int{1 << 61, -1 << 61, 1 << 62, -1 << 62, 3 << 61, -3 << 61, least} {
		for _, off := range []int{-5, -1, 0, 1, 100, 1000} {
			if at, e := b.Time(whose(some), some.Tai+far+off); at != 0 || e != api.ErrOver {
				t.Fatalf("%d, %d: %d, %d", far, off, at, e)
			}
		}
	}
}

// moment is a time of a root, and the second of UTC that it is to be.
type moment struct {
	at, ticks int
	text      string
}

// P23.1, P23.2: around leaps of each Step, around midnights without one, and at the table's ends, told by hand.
func TestUtcToldByHand(t *testing.T) {
	r := table(t, 17164, 36, 17169, leap.Leap{Day: 17165, Step: -1}, leap.Leap{Day: 17166, Step: 1})
	first := 86400*17164 + 36
	a := frame.Anchor{From: 1, Seq: 1, Root: 2, Boot: 7, Global: 86400*3000 + 7, Tai: 86400*17166 + 35}
	b, p := book(t, a)
	for tai, text := range map[int]string{
		first: "2016-12-29T00:00:00Z", first + 1: "2016-12-29T00:00:01Z", first + 86399: "2016-12-29T23:59:59Z", first + 86400: "2016-12-30T00:00:00Z", first + 86401: "2016-12-30T00:00:01Z",
		86400*17166 + 33: "2016-12-30T23:59:57Z", 86400*17166 + 34: "2016-12-30T23:59:58Z", 86400*17166 + 35: "2016-12-31T00:00:00Z", 86400*17166 + 36: "2016-12-31T00:00:01Z",
		86400*17167 + 33: "2016-12-31T23:59:58Z", 86400*17167 + 34: "2016-12-31T23:59:59Z", 86400*17167 + 35: "2016-12-31T23:59:60Z", 86400*17167 + 36: "2017-01-01T00:00:00Z", 86400*17167 + 37: "2017-01-01T00:00:01Z",
		86400*17169 + 35: "2017-01-02T23:59:59Z", first - 1: "", 86400*17169 + 36: "", first - 1000: "", 86400*17169 + 1036: "",
	} {
		begin := a.Global + 1000*(tai-a.Tai)
		for _, x := range []moment{{begin, 0, text}, {begin + 1, 1, text}, {begin + 500, 500, text}, {begin + 999, 999, text}} {
			u, k, e := b.Utc(r, whose(a), x.at)
			if text == "" {
				if u != (utc.Utc{}) || k != 0 || e != api.ErrPast {
					t.Errorf("%d, %d: %v, %d, %d", tai, x.ticks, u, k, e)
				}
				continue
			}
			if u.Text() != x.text || k != x.ticks || e != api.OK {
				t.Errorf("%s, %d: %v, %d, %d", x.text, x.ticks, u, k, e)
			}
			isUtc(t, b, p, r, whose(a), x.at)
		}
	}
}

// P23.1: a second of TAI ahead of 0, by a table that tells of days so early.
func TestUtcAheadOfZero(t *testing.T) {
	r := table(t, -3, 2, 1)
	b, _ := book(t, frame.Anchor{Root: 2, Boot: 7, Global: 86400*1000 + 5000, Tai: 2})
	for _, x := range []moment{{86405000, 0, "1970-01-01T00:00:00Z"}, {86404999, 999, "1969-12-31T23:59:59Z"}, {86402999, 999, "1969-12-31T23:59:57Z"}, {86402000, 0, "1969-12-31T23:59:57Z"}, {5000, 0, "1969-12-31T00:00:00Z"}, {4999, 999, "1969-12-30T23:59:59Z"}, {0, 0, "1969-12-30T23:59:55Z"}} {
		if u, k, e := b.Utc(r, source.Whose{Root: 2, Boot: 7}, x.at); u.Text() != x.text || k != x.ticks || e != api.OK {
			t.Errorf("%v: %v, %d, %d", x, u, k, e)
		}
	}
}

// P23.1: a nil table, of times that can be, is layer 22's error; Tai's come first.
func TestUtcOfANilTable(t *testing.T) {
	for _, a := range ties() {
		b, _ := book(t, a)
		for _, at := range near(a) {
			want := api.ErrNil
			if !time(at) {
				want = api.ErrOver
			}
			if u, k, e := b.Utc(nil, whose(a), at); u != (utc.Utc{}) || k != 0 || e != want {
				t.Fatalf("%v, %d: %v, %d, %d", a, at, u, k, e)
			}
		}
	}
}

// P23.1: each of Tai's errors, beside none, and each, of layer 22's.
func TestUtcsErrorsInTheirOrder(t *testing.T) {
	r := table(t, 0, 0, 2)
	tied := frame.Anchor{From: 1, Seq: 1, Root: 2, Boot: 7, Global: 5000, Tai: 5}
	past := frame.Anchor{From: 1, Seq: 1, Root: 2, Boot: 7, Global: 5000, Tai: 86400 * 5}
	w := whose(tied)
	for _, at := range []int{0, 5000, top} {
		for _, x := range []*leap.Table{nil, r} {
			for code, b := range map[api.Errno]*Book{api.ErrNil: nil, api.ErrNone: {}} {
				if u, k, e := b.Utc(x, w, at); u != (utc.Utc{}) || k != 0 || e != code {
					t.Errorf("%q, %d: %v, %d, %d", x.Text(), at, u, k, e)
				}
			}
		}
	}
	for _, a := range []frame.Anchor{tied, past} {
		for _, x := range []*leap.Table{nil, r} {
			b, _ := book(t, a)
			for _, at := range []int{-1, top + 1, least, greatest} {
				if u, k, e := b.Utc(x, w, at); u != (utc.Utc{}) || k != 0 || e != api.ErrOver {
					t.Errorf("%q, %d: %v, %d, %d", x.Text(), at, u, k, e)
				}
				if u, k, e := b.Utc(x, source.Whose{Root: 2, Boot: 8}, at); u != (utc.Utc{}) || k != 0 || e != api.ErrUnsync {
					t.Errorf("%q, %d: %v, %d, %d", x.Text(), at, u, k, e)
				}
			}
			want := api.ErrNil
			if x != nil {
				want = api.ErrPast
			}
			for _, at := range []int{86400*2000 + 5000, top} {
				if u, k, e := b.Utc(x, w, at); u != (utc.Utc{}) || k != 0 || e != want {
					t.Errorf("%q, %d: %v, %d, %d", x.Text(), at, u, k, e)
				}
			}
		}
	}
}

// P23.1: each of Tai's errors ahead of ErrOver of the second, and none for the time 0 that is asked of beside it.
func TestTimesErrorsInTheirOrder(t *testing.T) {
	b, _ := book(t, some)
	for _, tai := range []int{least, -top - 1, -top, 0, 94, 95, 100, top, top + 1, greatest} {
		for code, x := range map[api.Errno]*Book{api.ErrNil: nil, api.ErrNone: {}, api.ErrUnsync: b} {
			for _, w := range []source.Whose{{Root: 2, Boot: 8}, {Root: 3, Boot: 7}, {Root: -1, Boot: 7}, {Root: 64}} {
				if at, e := x.Time(w, tai); at != 0 || e != code {
					t.Errorf("%v, %d: %d, %d", w, tai, at, e)
				}
			}
		}
	}
}

// comesBack fails, unless a time is that of its second and its ticks; the beginning of a second may be below 0, and a second above MaxTime, of which no time is told.
func comesBack(t testing.TB, b *Book, a frame.Anchor, at int) bool {
	t.Helper()
	m, e := b.Tai(whose(a), at)
	if e != api.OK || m.Ticks < 0 || m.Ticks > 999 {
		t.Fatalf("%v, %d: %v, %d", a, at, m, e)
	}
	begin, e := b.Time(whose(a), m.Tai)
	if at-m.Ticks < 0 || m.Tai > top {
		if begin != 0 || e != api.ErrOver {
			t.Fatalf("%v, %d: %v: %d, %d", a, at, m, begin, e)
		}
		return false
	}
	if begin+m.Ticks != at || e != api.OK {
		t.Fatalf("%v, %d: %v: %d, %d", a, at, m, begin, e)
	}
	// A second begins without a tick, and so it comes back itself.
	if x, e := b.Tai(whose(a), begin); x != (Moment{Tai: m.Tai}) || e != api.OK {
		t.Fatalf("%v, %d: %v, and %v, %d", a, at, m, x, e)
	}
	return true
}

// P23.2
func TestFromTimesToSecondsAndBack(t *testing.T) {
	for _, a := range ties() {
		b, _ := book(t, a)
		for _, at := range near(a) {
			if time(at) {
				comesBack(t, b, a, at)
			}
		}
	}
	for _, a := range []frame.Anchor{some, {Root: 2, Global: 5999, Tai: 1}, {Root: 2}} {
		b, _ := book(t, a)
		for at := range 20000 {
			if comesBack(t, b, a, at) != (at >= a.Global%1000) {
				t.Fatalf("%v, %d", a, at)
			}
		}
	}
}

// drawnTime is any time, or a small one, or one about the greatest.
func drawnTime(s *spread) int {
	switch s.between(0, 3) {
	case 0:
		return s.between(0, top)
	case 1:
		return s.between(top-5000, top)
	case 2:
		return s.between(0, 5000)
	}
	return s.between(0, 1<<40)
}

// P23.2: drawn anchors and times.
func TestDrawnTimesAndBack(t *testing.T) {
	var s spread = 232
	back := 0
	for range 3000 {
		a := frame.Anchor{From: s.between(0, 63), Seq: uint16(s.next()), Root: s.between(0, 63), Boot: uint16(s.next()), Global: drawnTime(&s), Tai: drawnTime(&s)}
		b, p := book(t, a)
		for range 30 {
			at := drawnTime(&s)
			if comesBack(t, b, a, at) {
				back++
			}
			isTai(t, b, p, whose(a), at)
			isTimeOf(t, b, p, whose(a), drawnTime(&s))
			isTimeOf(t, b, p, whose(a), s.between(-2000, 2000)+a.Tai-a.Global/1000)
		}
	}
	if back < 60000 {
		t.Errorf("%d came back", back)
	}
}

// P23.2: the second of UTC is that which layer 22 tells of Tai's second, and no other table's.
func TestUtcIsLayer22s(t *testing.T) {
	all := tables(t)
	told := 0
	for _, a := range []frame.Anchor{{Root: 2, Global: 86400*1000*3 + 77}, {Root: 2, Global: 1 << 40, Tai: 86400*17166 + 36}, {Root: 2, Tai: 86400 * 17000}, {Root: 2, Global: top, Tai: 86400 * 20000}, some} {
		b, p := book(t, a)
		for _, r := range all {
			was := r.Text()
			start, end := r.Range()
			days := []int{start, end, 0, 17166}
			for l := range r.All() {
				days = append(days, l.Day, l.Day+1)
			}
			for _, day := range days {
				for off := -5; off <= 105; off++ {
					begin := a.Global + 1000*(86400*day+off-a.Tai)
					for _, ticks := range []int{0, 1, 999} {
						isUtc(t, b, p, r, whose(a), begin+ticks)
						if _, _, e := b.Utc(r, whose(a), begin+ticks); e == api.OK {
							told++
						}
					}
				}
			}
			if now := r.Text(); now != was {
				t.Fatalf("%q is %q now", was, now)
			}
		}
	}
	if told < 2000 {
		t.Errorf("%d seconds were told", told)
	}
}

// P23.2: a whole day with a second more, told by layer 22's Tai: as many seconds as there are, of a thousand ticks each.
func TestTheSecondsOfADay(t *testing.T) {
	r := table(t, 17160, 36, 17170, leap.Leap{Day: 17166, Step: 1})
	a := frame.Anchor{Root: 2, Boot: 7, Global: 86400*3000 + 250, Tai: 86400*17165 + 1234}
	b, _ := book(t, a)
	day, _ := civil.Parse("2016-12-31")
	begin, e := utc.Tai(r, utc.Utc{Date: day})
	if e != api.OK {
		t.Fatal(e)
	}
	count := 0
	for tai := begin; ; tai++ {
		at, e := b.Time(whose(a), tai)
		if e != api.OK {
			t.Fatalf("%d: %d", tai, e)
		}
		u, k, e := b.Utc(r, whose(a), at+count%1000)
		if e != api.OK || k != count%1000 {
			t.Fatalf("%d: %v, %d, %d", tai, u, k, e)
		}
		if u.Date != day {
			break
		}
		if back, e := utc.Tai(r, u); back != tai || e != api.OK {
			t.Fatalf("%d: %v, %d, %d", tai, u, back, e)
		}
		if last := strings.HasSuffix(u.Text(), "T23:59:60Z"); last != (count == 86400) {
			t.Fatalf("%d: %v", count, u)
		}
		count++
	}
	if count != 86401 {
		t.Errorf("%d seconds", count)
	}
}

// P23.1: asking changes nothing, and is answered alike, as often as it is done.
func TestAskingChangesNothing(t *testing.T) {
	for _, before := range [][]frame.Anchor{nil, {some}, {{}}, {some, {Seq: 501, Root: 63, Boot: 1, Global: top, Tai: top}}} {
		b, p := book(t, before...)
		for range 3 {
			asks(t, b, p)
		}
		a, ok := b.Has()
		if makes(t, b, p, 1, answer(2, 3, 4), 5) != api.OK {
			t.Fatal("not made")
		}
		// What was told of an anchor is a value of its own.
		if now, _ := b.Has(); ok && now == a {
			t.Fatalf("%v", now)
		}
	}
}

// P23.1: books know nothing of one another, nor of what becomes of what they told.
func TestBooksKnowNothingOfOneAnother(t *testing.T) {
	one, p := book(t, some)
	two, q := book(t)
	asks(t, two, q)
	made, e := two.Make(3, answer(5, 6, 7000), 8)
	if want, _ := q.make(3, answer(5, 6, 7000), 8); made != want || e != api.OK {
		t.Fatalf("%v, %d", made, e)
	}
	made.Seq, made.Global = 60000, 1
	told, _ := one.Has()
	told.Seq, told.Tai = 7, 1
	asks(t, one, p)
	asks(t, two, q)
	one.Drop()
	p.drop()
	asks(t, one, p)
	asks(t, two, q)
	hears(t, one, p, frame.Anchor{From: 1, Seq: 1, Root: 1, Boot: 1, Global: 1, Tai: 1})
	asks(t, one, p)
	asks(t, two, q)
}

// The kinds of calls that may change a book.
const (
	drop = iota
	hear
	mint
)

// act is such a call.
type act struct {
	what   int
	anchor frame.Anchor
}

// does does what an act says to both books, and fails, unless they answer alike.
func (a act) does(t testing.TB, b *Book, p *plain) {
	t.Helper()
	switch a.what {
	case drop:
		b.Drop()
		p.drop()
	case hear:
		hears(t, b, p, a.anchor)
	case mint:
		makes(t, b, p, a.anchor.From, answer(a.anchor.Root, a.anchor.Boot, a.anchor.Global), a.anchor.Tai)
	}
	has(t, b, p)
}

// follows fails, unless acts in a row are answered as the rules say, and so is all that is asked behind each, of the roots that stand in them.
func follows(t testing.TB, b *Book, p *plain, r *leap.Table, acts ...act) {
	t.Helper()
	for _, a := range acts {
		a.does(t, b, p)
		for _, x := range acts {
			w := whose(x.anchor)
			for _, n := range []int{-1, 0, 4999, 7250, top, top + 1} {
				isTai(t, b, p, w, n)
				isUtc(t, b, p, r, w, n)
			}
			for _, n := range []int{-top - 1, -1, 0, 94, 95, 100, 102, top} {
				isTimeOf(t, b, p, w, n)
			}
		}
	}
}

// few are acts of which every order is tried.
var few = []act{
	{what: drop}, {hear, some}, {hear, frame.Anchor{From: 9, Seq: 501, Root: 2, Boot: 8, Global: 7000, Tai: 4}}, {hear, frame.Anchor{Seq: 65535, Root: 2, Boot: 7, Global: 2}}, {hear, frame.Anchor{Seq: 502, Root: 64}},
	{mint, frame.Anchor{From: 3, Root: 2, Boot: 7, Global: 5500, Tai: 98}}, {mint, frame.Anchor{From: 4, Root: 5, Global: 1, Tai: 1}}, {mint, frame.Anchor{From: 3, Root: 2, Boot: 7, Global: -1, Tai: 9}},
}

// P23.1
func TestAllOrdersOfAFewActs(t *testing.T) {
	const length = 4
	r := table(t, 0, 0, 1)
	all := 1
	for range length {
		all *= len(few)
	}
	for n := range all {
		acts := make([]act, length)
		for i := range acts {
			acts[i] = few[n%len(few)]
			n /= len(few)
		}
		follows(t, new(Book), new(plain), r, acts...)
		follows(t, nil, &plain{none: true}, r, acts...)
	}
}

// drawn is an act, most of them such that can be; Seqs are about the one that there is.
func drawn(s *spread, seq uint16) act {
	a := frame.Anchor{From: s.between(0, 63), Seq: seq + uint16(s.of(-32769, -32768, -32767, -1, 0, 1, 1, 1, 2, 3, 32766, 32767, 32768)), Root: s.of(0, 2, 5, 63), Boot: uint16(s.of(0, 7, 65535)), Global: drawnTime(s), Tai: drawnTime(s)}
	switch s.between(0, 11) {
	case 0:
		a.From = s.of(-1, 64, least, greatest)
	case 1:
		a.Root = s.of(-1, 64, least, greatest)
	case 2:
		a.Global = s.of(-1, top+1, least, greatest)
	case 3:
		a.Tai = s.of(-1, top+1, least, greatest)
	case 4:
		a.Seq = uint16(s.next())
	}
	return act{s.of(drop, hear, hear, hear, hear, mint, mint, mint), a}
}

// P23.1
func TestDrawnActs(t *testing.T) {
	var s spread = 23
	all := tables(t)
	for range 300 {
		b, p := new(Book), new(plain)
		for range 60 {
			last, _ := p.has()
			a := drawn(&s, last.Seq)
			r := all[s.between(0, len(all)-1)]
			follows(t, b, p, r, a)
			last, _ = p.has()
			for range 5 {
				w := source.Whose{Root: s.of(last.Root, last.Root, last.Root, 0, 64), Boot: uint16(s.of(int(last.Boot), int(last.Boot), 0, 8))}
				isTai(t, b, p, w, s.of(drawnTime(&s), last.Global+s.between(-3000, 3000)))
				isUtc(t, b, p, r, w, last.Global+1000*(86400*s.of(0, 1, 17166, 17167)-last.Tai)+s.between(-3000, 50000))
				isTimeOf(t, b, p, w, s.of(drawnTime(&s), last.Tai+s.between(-3000, 3000)))
			}
		}
	}
}
