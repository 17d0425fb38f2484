package globe

import (
	"math"
	"math/big"
	"slices"
	"testing"

	"angelus/api"
	"angelus/slope"
	"angelus/table"
)

const (
	least    = math.MinInt
	greatest = math.MaxInt
	maxTime  = 1 << 50
	far      = 1 << 22
)

// drifts are those at both bounds, beside them, between them, beyond them, and at the edges of their type.
var drifts = []int{least, -1000, -1, 0, 1, 2, 5, 9, 10, 11, 1000, 1 << 32, greatest}

// edges are the numbers at which a time begins, or ends, to be one, and those of their type.
var edges = []int{least, least + 1, -maxTime - 1, -maxTime, -1 << 32, -2, -1, 0, 1, 2, 1 << 32, maxTime - 2, maxTime - 1, maxTime, maxTime + 1, maxTime + 2, 1 << 62, greatest - 1, greatest}

// spread tells numbers that look as if drawn, the same ones every time.
type spread uint64

func (s *spread) next() uint64 {
	*s = *s*6364136223846793005 + 1442695040888963407
	return uint64(*s >> 11)
}

// between is one of the numbers from low to high, both meant.
func (s *spread) between(low, high int) int {
	return low + int(s.next()%uint64(high-low+1))
}

// at is an entry over one hop.
func at(local, offset int) table.Entry {
	return table.Entry{Local: local, Offset: offset, Hops: 1}
}

// tableOf is a table to which entries were added.
func tableOf(t *testing.T, list ...table.Entry) *table.Table {
	t.Helper()
	r := new(table.Table)
	for _, e := range list {
		if code := r.Add(e); code != api.OK {
			t.Fatalf("%v: %d", e, code)
		}
	}
	return r
}

// mapOf is the map of entries.
func mapOf(t *testing.T, drift int, list ...table.Entry) Map {
	t.Helper()
	m, ok := Of(drift, tableOf(t, list...))
	if !ok {
		t.Fatalf("%v have no map", list)
	}
	return m
}

// kept is the entries that a table still has of those that were added.
func kept(list []table.Entry) []table.Entry {
	return list[max(0, len(list)-8):]
}

// mean is that of what f tells of entries, rounded down, of numbers of any size.
func mean(list []table.Entry, f func(table.Entry) int) int {
	sum := new(big.Int)
	for _, e := range list {
		sum.Add(sum, big.NewInt(int64(f(e))))
	}
	// Of divisors above 0 Euclid's quotient is the one that is rounded down.
	return int(sum.Div(sum, big.NewInt(int64(len(list)))).Int64())
}

// plainOf reckons the map of entries.
func plainOf(drift int, list []table.Entry) Map {
	hops := 0
	for _, e := range list {
		if e.Hops > hops {
			hops = e.Hops
		}
	}
	return Map{
		Local:  mean(list, func(e table.Entry) int { return e.Local }),
		Offset: mean(list, func(e table.Entry) int { return e.Offset }),
		Slope:  slope.Of(drift, list...),
		Hops:   hops,
	}
}

// can: whether a number of any size is a time.
func can(n *big.Int) bool {
	return n.Sign() >= 0 && n.Cmp(big.NewInt(maxTime)) <= 0
}

// plainTime reckons the other clock's time at any time of the own one.
func plainTime(m Map, local int) *big.Int {
	own := big.NewInt(int64(local))
	gain := new(big.Int).Sub(own, big.NewInt(int64(m.Local)))
	gain.Mul(gain, big.NewInt(int64(m.Slope.Num)))
	gain.Div(gain, big.NewInt(int64(m.Slope.Den)))
	return gain.Add(gain, own).Add(gain, big.NewInt(int64(m.Offset)))
}

// plainGlobal reckons what Global is to answer.
func plainGlobal(m Map, local int) (int, bool) {
	global := plainTime(m, local)
	if !can(big.NewInt(int64(local))) || !can(global) {
		return 0, false
	}
	return int(global.Int64()), true
}

// plainBack reckons what Back is to answer, by the least own time as a fraction, which is rounded up.
func plainBack(m Map, global int) (int, bool) {
	if global < 0 || global > maxTime {
		return 0, false
	}
	num, den := big.NewInt(int64(m.Slope.Num)), big.NewInt(int64(m.Slope.Den))
	own := big.NewInt(int64(m.Local + m.Offset - global))
	own.Mul(own, den)
	own.Div(own, den.Add(den, num))
	own.Sub(big.NewInt(int64(m.Local)), own)
	if own.Sign() < 0 {
		own.SetInt64(0)
	}
	if !can(own) || !can(plainTime(m, int(own.Int64()))) {
		return 0, false
	}
	return int(own.Int64()), true
}

// stretch is what Global is to answer at the own times from one to another, both meant; -1 where it isn't told.
func stretch(m Map, low, high int) []int {
	var list []int
	for local := low; local <= high; local++ {
		told, ok := plainGlobal(m, local)
		if !ok {
			told = -1
		}
		list = append(list, told)
	}
	return list
}

// tried is what Back is to answer, found by trying one own time of a stretch behind the other.
func tried(list []int, low, global int) (int, bool) {
	for i, told := range list {
		if told >= 0 && told >= global && global >= 0 && global <= maxTime {
			return low + i, true
		}
	}
	return 0, false
}

// holdsGlobal fails, unless Global answers what is reckoned.
func holdsGlobal(t *testing.T, m Map, local int) {
	t.Helper()
	want, is := plainGlobal(m, local)
	if got, ok := m.Global(local); got != want || ok != is {
		t.Fatalf("%v: Global(%d) is %d, %v, not %d, %v", m, local, got, ok, want, is)
	}
}

// holdsBack fails, unless Back answers what is reckoned, and the time just ahead of it is too early.
func holdsBack(t *testing.T, m Map, global int) {
	t.Helper()
	want, is := plainBack(m, global)
	got, ok := m.Back(global)
	if got != want || ok != is {
		t.Fatalf("%v: Back(%d) is %d, %v, not %d, %v", m, global, got, ok, want, is)
	}
	if !ok {
		return
	}
	if told, ok := m.Global(got); !ok || told < global {
		t.Fatalf("%v: Back(%d) is %d, whose Global is %d, %v", m, global, got, told, ok)
	}
	if told, ok := m.Global(got - 1); ok && told >= global {
		t.Fatalf("%v: Back(%d) is %d, but Global(%d) is %d", m, global, got, got-1, told)
	}
}

// around is numbers near one.
func around(n int) []int {
	list := []int{}
	for _, k := range []int{0, 1, 2, 3, 49, 50, 51, 98, 99, 100, 989, 990, 991, 999, 1000, 1001, 123456, far} {
		list = append(list, n-k, n+k)
	}
	return list
}

// times are own times at which a map is looked at: the edges, those near its Local, and those at which the other clock comes to its first and its last time.
func times(m Map) []int {
	list := slices.Concat(edges, around(m.Local), around(m.Local+m.Offset))
	for _, global := range []int{0, maxTime} {
		if local, ok := plainBack(m, global); ok {
			list = append(list, around(local)...)
		}
	}
	// Where it goes beyond its last one there may be no own time that is just that.
	if local, ok := plainBack(m, maxTime-3); ok {
		list = append(list, around(local)...)
	}
	return list
}

// holds fails, unless of the entries' map, of every drift, all calls answer what is reckoned plainly.
func holds(t *testing.T, list ...table.Entry) {
	t.Helper()
	for _, d := range drifts {
		holdsOf(t, d, list...)
	}
}

// holdsOf is holds of one drift.
func holdsOf(t *testing.T, d int, list ...table.Entry) {
	t.Helper()
	r := tableOf(t, list...)
	was := r.List()
	m, ok := Of(d, r)
	if want := plainOf(d, kept(list)); !ok || m != want {
		t.Fatalf("drift %d, %v: %v, %v, not %v", d, list, m, ok, want)
	}
	if m.Slope != slope.Of(d, was...) || m.Hops != r.Hops() {
		t.Fatalf("drift %d, %v: %v", d, list, m)
	}
	if again, ok := Of(d, r); again != m || !ok || !slices.Equal(r.List(), was) {
		t.Fatalf("drift %d: %v became %v, and %v %v", d, was, r.List(), m, again)
	}
	for _, local := range times(m) {
		holdsGlobal(t, m, local)
		holdsBack(t, m, local)
		if told, ok := m.Global(local); ok {
			holdsBack(t, m, told)
			holdsBack(t, m, told-1)
			holdsBack(t, m, told+1)
		}
	}
}

// P14.1
func TestExample(t *testing.T) {
	m := mapOf(t, 10, at(100, 50))
	if got, ok := m.Global(7); got != 57 || !ok {
		t.Errorf("Global(7): %d, %v", got, ok)
	}
	if got, ok := m.Back(57); got != 7 || !ok {
		t.Errorf("Back(57): %d, %v", got, ok)
	}
}

// P14.1
func TestOfNoEntries(t *testing.T) {
	cleared := tableOf(t, at(5, 6), at(1005, 7))
	cleared.Clear()
	for _, d := range drifts {
		for name, r := range map[string]*table.Table{"nil": nil, "empty": new(table.Table), "cleared": cleared} {
			if m, ok := Of(d, r); m != (Map{}) || ok {
				t.Errorf("drift %d, a table that is %s: %v, %v", d, name, m, ok)
			}
		}
	}
	refused := new(table.Table)
	if refused.Add(at(-1, 0)) != api.ErrArg {
		t.Fatal("an entry that can't be was added")
	}
	if m, ok := Of(10, refused); m != (Map{}) || ok {
		t.Errorf("%v, %v", m, ok)
	}
}

// P14.1
func TestOfOneEntry(t *testing.T) {
	for _, local := range []int{0, 1, 100, far, maxTime / 2, maxTime - 1, maxTime} {
		for _, offset := range []int{-maxTime, 1 - maxTime, -far, -101, -100, -99, -1, 0, 1, 50, far, maxTime / 2, maxTime - 1, maxTime} {
			for _, hops := range []int{1, 2, 63} {
				e := table.Entry{Local: local, Offset: offset, Hops: hops}
				want := Map{Local: local, Offset: offset, Slope: slope.Slope{Num: 0, Den: 1}, Hops: hops}
				for _, d := range drifts {
					if got := mapOf(t, d, e); got != want {
						t.Fatalf("drift %d, %v: %v", d, e, got)
					}
				}
				holdsOf(t, 10, e)
			}
		}
	}
}

// P14.1
func TestOfMoreEntries(t *testing.T) {
	for _, c := range []struct {
		drift int
		list  []table.Entry
		want  Map
	}{
		// Two: on a line, and two whose slope is beyond what may be.
		{10, []table.Entry{{Local: 0, Offset: 0, Hops: 2}, {Local: 1000, Offset: 5, Hops: 1}}, Map{500, 2, slope.Slope{Num: 5000, Den: 1000000}, 2}},
		{1, []table.Entry{{Local: 0, Offset: 0, Hops: 1}, {Local: 1000, Offset: 5, Hops: 3}}, Map{500, 2, slope.Slope{Num: 2, Den: 999}, 3}},
		{1, []table.Entry{at(0, 0), at(1000, -5)}, Map{500, -3, slope.Slope{Num: -2, Den: 999}, 1}},
		{0, []table.Entry{at(0, 0), at(1000, 5)}, Map{500, 2, slope.Slope{Num: 0, Den: 1000}, 1}},
		{-7, []table.Entry{at(0, 0), at(1000, 5)}, Map{500, 2, slope.Slope{Num: 0, Den: 1000}, 1}},
		{10, []table.Entry{at(0, 0), at(1000, 30)}, Map{500, 15, slope.Slope{Num: 20, Den: 990}, 1}},
		{999, []table.Entry{at(0, 0), at(1000, 30)}, Map{500, 15, slope.Slope{Num: 20, Den: 990}, 1}},
		// So far apart that no slope is told, and just not so far.
		{10, []table.Entry{at(7, 0), at(8+far, 9)}, Map{7 + far/2, 4, slope.Slope{Num: 0, Den: 1}, 1}},
		{10, []table.Entry{at(7, 0), at(7+far, 0)}, Map{7 + far/2, 0, slope.Slope{Num: 0, Den: far * far}, 1}},
		{10, []table.Entry{at(7, 0), at(1007, far+1)}, Map{507, far / 2, slope.Slope{Num: 0, Den: 1}, 1}},
		// Three, whose greatest hops are the middle one's.
		{10, []table.Entry{{Local: 3, Offset: 1, Hops: 4}, {Local: 4, Offset: 1, Hops: 63}, {Local: 6, Offset: 1, Hops: 5}}, Map{4, 1, slope.Slope{Num: 0, Den: 14}, 63}},
		// Eight.
		{10, []table.Entry{at(0, 0), at(1, 0), at(2, 0), at(3, 0), at(4, 0), at(5, 0), at(6, 0), at(7, -1)}, Map{3, -1, slope.Slope{Num: -20, Den: 990}, 1}},
	} {
		if got := mapOf(t, c.drift, c.list...); got != c.want {
			t.Errorf("drift %d, %v: %v, not %v", c.drift, c.list, got, c.want)
		}
		holds(t, c.list...)
	}
}

// P14.1
func TestOfHowMany(t *testing.T) {
	var list []table.Entry
	for n := 1; n <= 20; n++ {
		// The greatest hops, and the greatest offset, are those of the first ones, which go.
		list = append(list, table.Entry{Local: 900 + 1003*n, Offset: 300 + n%4 - 2*n, Hops: max(1, 30-2*n)})
		holds(t, list...)
		m := mapOf(t, 10, list...)
		if eldest := max(1, n-7); m.Hops != max(1, 30-2*eldest) {
			t.Errorf("%d were added: %v", n, m)
		}
	}
	if got := mapOf(t, 10, list...); got != mapOf(t, 10, list[12:]...) {
		t.Errorf("of twenty %v", got)
	}
	if got := mapOf(t, 10, list[11:]...); got == mapOf(t, 10, list[11:19]...) {
		t.Errorf("of nine %v, which are the eldest eight", got)
	}
}

// P14.1
func TestMeansAreRoundedDown(t *testing.T) {
	for n := 2; n <= 8; n++ {
		for rest := range n {
			for _, offset := range []int{-1000, -1, 0, 1, 1000} {
				var list []table.Entry
				for i := range n {
					list = append(list, at(10*i, offset))
				}
				// The sums are rest more than what comes out even.
				list[n-1].Local += 20*n + rest
				list[n-1].Offset += rest
				m := mapOf(t, 10, list...)
				if m.Offset != offset || m.Local != 5*(n-1)+20 {
					t.Errorf("%v: %v", list, m)
				}
				holdsOf(t, 10, list...)
			}
		}
	}
	for _, c := range []struct{ a, b, want int }{{-1, 0, -1}, {-1, -2, -2}, {0, 1, 0}, {1, 2, 1}, {-3, 2, -1}, {3, -2, 0}, {-maxTime, 1 - maxTime, -maxTime}, {maxTime, maxTime - 1, maxTime - 1}, {-maxTime, maxTime, 0}} {
		if m := mapOf(t, 10, at(3, c.a), at(6, c.b)); m.Offset != c.want || m.Local != 4 {
			t.Errorf("%d and %d: %v", c.a, c.b, m)
		}
	}
}

// P14.1
func TestOfTheEndsOfWhatMayBe(t *testing.T) {
	for n := 1; n <= 8; n++ {
		for _, first := range []int{0, maxTime + 1 - n} {
			for _, offset := range []int{-maxTime, maxTime} {
				var list []table.Entry
				for i := range n {
					list = append(list, at(first+i, offset))
				}
				if m := mapOf(t, 10, list...); m.Local != first+(n-1)/2 || m.Offset != offset {
					t.Errorf("%v: %v", list, m)
				}
				holds(t, list...)
			}
		}
	}
	holds(t, at(0, maxTime), at(maxTime, -maxTime))
	holds(t, at(0, -maxTime), at(maxTime, maxTime))
	holds(t, at(maxTime-2, -maxTime), at(maxTime-1, maxTime), at(maxTime, maxTime))
}

// steep is maps of the greatest slopes, and their opposites, of each drift, and of lesser ones; one stands at so much, and so much ahead.
func steep(t *testing.T, local, offset int) []Map {
	var list []Map
	for _, d := range drifts {
		for _, gain := range []int{-21, -20, -19, -3, -1, 0, 1, 3, 19, 20, 21} {
			list = append(list, mapOf(t, d, at(local-495, offset-gain), at(local+495, offset+gain)))
			list = append(list, mapOf(t, d, at(local-499, offset), at(local, offset+gain), at(local+501, offset+gain)))
		}
	}
	return list
}

// P14.1
func TestGlobalOfHandReckonedTimes(t *testing.T) {
	// The mean is at 1500, and 30 ahead; the other clock gains 4 in 1000, and loses as much.
	up := mapOf(t, 10, at(1000, 28), at(2000, 32))
	down := mapOf(t, 10, at(1000, 32), at(2000, 28))
	if up.Local != 1500 || up.Offset != 30 || down.Local != 1500 || down.Offset != 30 {
		t.Fatalf("%v, %v", up, down)
	}
	for _, c := range []struct{ local, up, down int }{
		{1500, 1530, 1530}, {1501, 1531, 1530}, {1749, 1779, 1778}, {1750, 1781, 1779}, {1751, 1782, 1779}, {2500, 2534, 2526},
		// Behind the mean what is gained is rounded down, too, away from 0.
		{1499, 1528, 1529}, {1251, 1280, 1281}, {1250, 1279, 1281}, {1249, 1277, 1280}, {1000, 1028, 1032}, {999, 1026, 1031}, {0, 24, 36},
	} {
		if got, ok := up.Global(c.local); got != c.up || !ok {
			t.Errorf("up at %d: %d, %v, not %d", c.local, got, ok, c.up)
		}
		if got, ok := down.Global(c.local); got != c.down || !ok {
			t.Errorf("down at %d: %d, %v, not %d", c.local, got, ok, c.down)
		}
	}
}

// P14.1
func TestGlobalAtTheEdges(t *testing.T) {
	for _, c := range []struct {
		offset, local, want int
		ok                  bool
	}{
		{0, 0, 0, true}, {0, -1, 0, false}, {0, maxTime, maxTime, true}, {0, maxTime + 1, 0, false}, {0, maxTime - 1, maxTime - 1, true}, {0, 1, 1, true},
		{0, least, 0, false}, {0, least + 1, 0, false}, {0, greatest, 0, false}, {0, greatest - 1, 0, false}, {0, 1<<62 + 5, 0, false}, {0, 1<<32 + 5, 1<<32 + 5, true},
		// The time comes to below 0, to 0, and above.
		{-7, 6, 0, false}, {-7, 7, 0, true}, {-7, 8, 1, true}, {-7, 0, 0, false}, {-maxTime, maxTime, 0, true}, {-maxTime, maxTime - 1, 0, false}, {-maxTime, 0, 0, false},
		// The own time is none, though the other one would be.
		{7, -7, 0, false}, {7, -1, 0, false}, {-7, maxTime + 1, 0, false}, {-7, maxTime + 7, 0, false}, {maxTime, -1, 0, false}, {-maxTime, maxTime + 1, 0, false},
		// The time comes to 2^50, and one above.
		{7, maxTime - 8, maxTime - 1, true}, {7, maxTime - 7, maxTime, true}, {7, maxTime - 6, 0, false}, {7, maxTime, 0, false}, {maxTime, 0, maxTime, true}, {maxTime, 1, 0, false}, {maxTime, maxTime, 0, false},
	} {
		for _, local := range []int{0, 500, maxTime} {
			m := mapOf(t, 10, at(local, c.offset))
			if got, ok := m.Global(c.local); got != c.want || ok != c.ok {
				t.Errorf("%d ahead, at %d: %d, %v, not %d, %v", c.offset, c.local, got, ok, c.want, c.ok)
			}
		}
	}
}

// P14.1
func TestGlobalWhereTimesBeginAndEnd(t *testing.T) {
	// Of each slope some own times at which the other clock is about its first time, and its last one.
	for _, m := range steep(t, 1000, -1000) {
		seen := map[bool]int{}
		for local := 900; local <= 1100; local++ {
			holdsGlobal(t, m, local)
			_, ok := m.Global(local)
			seen[ok]++
		}
		if seen[true] == 0 || seen[false] == 0 {
			t.Errorf("%v: %v", m, seen)
		}
	}
	for _, m := range steep(t, maxTime-1000, 1000) {
		seen := map[bool]int{}
		for local := maxTime - 1100; local <= maxTime-900; local++ {
			holdsGlobal(t, m, local)
			_, ok := m.Global(local)
			seen[ok]++
		}
		if seen[true] == 0 || seen[false] == 0 {
			t.Errorf("%v: %v", m, seen)
		}
	}
}

// P14.1
func TestBackAtTheEdges(t *testing.T) {
	for _, c := range []struct {
		offset, global, want int
		ok                   bool
	}{
		{0, 0, 0, true}, {0, 1, 1, true}, {0, maxTime - 1, maxTime - 1, true}, {0, maxTime, maxTime, true},
		{0, -1, 0, false}, {0, maxTime + 1, 0, false}, {0, least, 0, false}, {0, least + 1, 0, false}, {0, greatest, 0, false}, {0, greatest - 1, 0, false},
		// Ahead: what is below all that is told has the least own time; the last ones that can be come early.
		{50, 0, 0, true}, {50, 49, 0, true}, {50, 50, 0, true}, {50, 51, 1, true}, {50, -1, 0, false}, {50, maxTime, maxTime - 50, true}, {50, maxTime + 1, 0, false}, {50, maxTime - 1, maxTime - 51, true},
		// Behind: the first ones come late, and the last ones not at all.
		{-50, 0, 50, true}, {-50, 1, 51, true}, {-50, -1, 0, false}, {-50, maxTime - 51, maxTime - 1, true}, {-50, maxTime - 50, maxTime, true}, {-50, maxTime - 49, 0, false}, {-50, maxTime, 0, false},
		{maxTime, 0, 0, true}, {maxTime, maxTime, 0, true}, {maxTime, maxTime - 1, 0, true}, {maxTime, maxTime + 1, 0, false},
		{-maxTime, 0, maxTime, true}, {-maxTime, 1, 0, false}, {-maxTime, maxTime, 0, false}, {-maxTime, -1, 0, false},
	} {
		for _, local := range []int{0, 500, maxTime} {
			m := mapOf(t, 10, at(local, c.offset))
			if got, ok := m.Back(c.global); got != c.want || ok != c.ok {
				t.Errorf("%d ahead, back of %d: %d, %v, not %d, %v", c.offset, c.global, got, ok, c.want, c.ok)
			}
		}
	}
}

// P14.1
func TestBackOfHandReckonedTimes(t *testing.T) {
	up := mapOf(t, 10, at(1000, 28), at(2000, 32))
	down := mapOf(t, 10, at(1000, 32), at(2000, 28))
	for _, c := range []struct{ global, up, down int }{
		// The faster one leaps over 1780, and over 1278; the slower one stands at 1530, and at 1281.
		{1530, 1500, 1500}, {1531, 1501, 1502}, {1779, 1749, 1750}, {1780, 1750, 1752}, {1781, 1750, 1753}, {1278, 1250, 1247}, {1281, 1252, 1250}, {1282, 1253, 1252},
		{24, 0, 0}, {25, 1, 0}, {36, 12, 0}, {37, 13, 2}, {0, 0, 0},
	} {
		if got, ok := up.Back(c.global); got != c.up || !ok {
			t.Errorf("up, %d: %d, %v, not %d", c.global, got, ok, c.up)
		}
		if got, ok := down.Back(c.global); got != c.down || !ok {
			t.Errorf("down, %d: %d, %v, not %d", c.global, got, ok, c.down)
		}
	}
}

// triesBack fails, unless Back of each time from one to another, both meant, is the least own time of a stretch; ahead of the stretch and behind it there is none.
func triesBack(t *testing.T, m Map, low, high, first, last int) {
	t.Helper()
	list := stretch(m, low, high)
	for global := first; global <= last; global++ {
		want, is := tried(list, low, global)
		if got, ok := m.Back(global); got != want || ok != is {
			t.Fatalf("%v: Back(%d) is %d, %v, not %d, %v", m, global, got, ok, want, is)
		}
	}
}

// P14.1: where few own times can be the least one, they are tried.
func TestBackByTrying(t *testing.T) {
	const window = 260
	for _, offset := range []int{-100, -99, -50, -1, 0, 1, 20, 101} {
		for _, m := range steep(t, 500, offset) {
			triesBack(t, m, 0, window, -1, 120)
		}
		for _, m := range steep(t, maxTime-1000, offset) {
			// No own time ahead of these tells what is asked of.
			if told, ok := plainGlobal(m, maxTime-window); !ok || told >= maxTime-130 {
				t.Fatalf("%v: %d, %v", m, told, ok)
			}
			triesBack(t, m, maxTime-window, maxTime, maxTime-130, maxTime+1)
		}
	}
}

// P14.1: the other clock may leap over the last time that can be, and then no own time reaches that.
func TestBackOfALastTimeThatIsLeapedOver(t *testing.T) {
	over, met := 0, 0
	for moved := range 120 {
		m := mapOf(t, 10, at(maxTime-3000+moved, 980), at(maxTime-2010+moved, 1000))
		holdsBack(t, m, maxTime)
		holdsBack(t, m, maxTime-1)
		if _, ok := m.Back(maxTime); ok {
			met++
			continue
		}
		over++
		// There are own times at which it is beyond that, and the one just ahead is below it.
		local, ok := m.Back(maxTime - 1)
		if !ok {
			t.Fatalf("%v: nothing is as late as %d", m, maxTime-1)
		}
		if told, ok := m.Global(local); told != maxTime-1 || !ok {
			t.Errorf("%v: %d, %v", m, told, ok)
		}
		if plainTime(m, local+1).Cmp(big.NewInt(maxTime+1)) != 0 {
			t.Errorf("%v: at %d it isn't leaped over", m, local+1)
		}
	}
	if over == 0 || met == 0 {
		t.Errorf("%d leap over, %d don't", over, met)
	}
}

// P14.1
func TestSteepMapsAtManyPlaces(t *testing.T) {
	for _, local := range []int{500, 1000, far, 1 << 32, maxTime / 2, maxTime - 501} {
		for _, offset := range []int{-maxTime + 21, -far, -1000, -500, 0, 1, 500, far, maxTime - 21} {
			for _, d := range []int{0, 1, 10} {
				for _, gain := range []int{-21, -20, -1, 1, 20, 21} {
					holdsOf(t, d, at(local-495, offset-gain), at(local+495, offset+gain))
				}
			}
		}
	}
}

// drawn is entries that can be added one behind the other, of a clock that gains some ticks in a thousand, whose stamps are a little wrong.
func drawn(s *spread) []table.Entry {
	reach := 1 << s.between(2, 24)
	local, offset := s.between(0, maxTime-40*reach), s.between(-maxTime+far, maxTime-far)
	if s.between(0, 3) == 0 {
		local = s.between(0, 5)
	}
	if s.between(0, 2) == 0 {
		offset = s.between(-2000, 2000) - local
	}
	rise := s.between(-25, 25)
	var list []table.Entry
	for range s.between(1, 12) {
		step := s.between(1, reach)
		local += step
		offset += step * rise / 1000
		e := table.Entry{Local: local, Offset: offset + s.between(-20, 20), Hops: s.between(1, 63)}
		if e.Good() {
			list = append(list, e)
		}
	}
	if len(list) == 0 {
		return []table.Entry{at(local, 0)}
	}
	return list
}

// P14.1, P14.2
func TestDrawnTables(t *testing.T) {
	var s spread = 14
	for range 900 {
		list := drawn(&s)
		d := s.between(-1, 11)
		holdsOf(t, d, list...)
		m := mapOf(t, d, list...)
		for range 30 {
			local := s.between(0, maxTime)
			holdsGlobal(t, m, local)
			holdsBack(t, m, local)
			goesOn(t, m, local, min(maxTime, local+s.between(1, 3000)))
			goesOn(t, m, min(local, m.Local), max(local, m.Local))
		}
	}
}

// P14.1: what a map tells hangs on nothing that the table learns later.
func TestAMapStaysAsItWas(t *testing.T) {
	r := tableOf(t, at(1000, 28), at(2000, 32))
	m, _ := Of(10, r)
	was := m
	r.Add(at(3000, -700))
	r.Clear()
	if m != was {
		t.Errorf("%v became %v", was, m)
	}
	if got, ok := m.Global(1750); got != 1781 || !ok {
		t.Errorf("%d, %v", got, ok)
	}
	m.Back(1781)
	if m != was {
		t.Errorf("%v became %v", was, m)
	}
}

// P14.1: of maps that no table has all calls end.
func TestOtherMapsEnd(t *testing.T) {
	numbers := []int{least, least + 1, -maxTime, -1000, -1, 0, 1, 1000, maxTime, greatest - 1, greatest}
	asked := []int{least, -1, 0, 1, 500, maxTime, maxTime + 1, greatest}
	for _, local := range numbers {
		for _, offset := range numbers {
			for _, num := range numbers {
				for _, den := range numbers {
					m := Map{Local: local, Offset: offset, Slope: slope.Slope{Num: num, Den: den}, Hops: num}
					for _, n := range asked {
						m.Global(n)
						m.Back(n)
					}
				}
			}
		}
	}
	var empty Map
	empty.Global(0)
	empty.Back(0)
}

// goesOn fails, if Global goes back from one time to a later one, or Back of it isn't what it is to be.
func goesOn(t *testing.T, m Map, early, late int) {
	t.Helper()
	first, told := m.Global(early)
	second, then := m.Global(late)
	if told && then && second < first {
		t.Fatalf("%v: %d at %d, %d at %d", m, first, early, second, late)
	}
	comesBack(t, m, early)
	comesBack(t, m, late)
}

// comesBack fails, unless Back of Global is no later than the time asked of, and has the same Global.
func comesBack(t *testing.T, m Map, local int) {
	t.Helper()
	told, ok := m.Global(local)
	if !ok {
		return
	}
	early, ok := m.Back(told)
	if !ok || early > local {
		t.Fatalf("%v: Global(%d) is %d, whose Back is %d, %v", m, local, told, early, ok)
	}
	if again, ok := m.Global(early); again != told || !ok {
		t.Fatalf("%v: Global(%d) is %d, but Global(%d) is %d, %v", m, local, told, early, again, ok)
	}
}

// P14.2
func TestTimeGoesOn(t *testing.T) {
	for _, place := range []struct{ local, offset int }{{500, -300}, {500, 0}, {1 << 40, -77}, {maxTime / 2, maxTime / 2}, {maxTime - 501, 200}, {maxTime - 501, 600}, {far, -far - 200}} {
		for _, m := range steep(t, place.local, place.offset) {
			for local := place.local - 520; local < place.local+520; local++ {
				goesOn(t, m, local, local+1)
			}
		}
	}
}

// P14.2: what is told begins once, and ends once.
func TestWhatIsToldIsOneStretch(t *testing.T) {
	for _, place := range []struct{ local, offset int }{{500, -480}, {520, -530}, {maxTime - 501, 480}, {maxTime - 510, 530}} {
		for _, m := range steep(t, place.local, place.offset) {
			turns := 0
			_, was := m.Global(place.local - 520)
			for local := place.local - 520; local < place.local+520; local++ {
				_, is := m.Global(local)
				if is != was {
					turns++
				}
				was = is
			}
			if turns > 2 {
				t.Fatalf("%v: told and not told %d times", m, turns)
			}
		}
	}
}

// clocks are an own clock and another one, whose steps differ by a drift at most.
type clocks struct {
	drift      int
	own, other int
}

// run goes on by steps in which the other clock gains as much as it can (1), loses it (-1), or neither (0).
func (c *clocks) run(steps, way int) {
	c.own += steps * (1000 - way*c.drift)
	c.other += steps * (1000 + way*c.drift)
}

// near fails, unless the map of entries that were right, but for so many ticks, is as right as it is to be at the clocks' time.
// That is no earlier than the newest entry: of earlier times so little is gained from the eldest on that the map of a clock that turned may be farther off.
func near(t *testing.T, c clocks, wrong int, list []table.Entry) {
	t.Helper()
	m := mapOf(t, c.drift, list...)
	eldest := kept(list)[0].Local
	bound := wrong + 2*slope.Most(c.drift).Gain(c.own-eldest) + 4
	got, ok := m.Global(c.own)
	if !ok || got < c.other-bound || got > c.other+bound {
		t.Fatalf("drift %d, wrong by %d, %v: at %d it is %d, and %d, %v is told", c.drift, wrong, kept(list), c.own, c.other, got, ok)
	}
}

// P14.3: of clocks that go as differently as they may, turning at any entry, whose stamps are as wrong as they may be.
func TestGlobalIsNear(t *testing.T) {
	for _, drift := range []int{0, 1, 2, 5, 10} {
		for _, wrong := range []int{0, 1, 20} {
			for _, steps := range []int{1, 3, 64, 700} {
				// Each of four entries: how the clocks go ahead of it, and which way it is wrong; and how they go then.
				for pattern := range 3 * 6 * 6 * 6 * 6 {
					c := clocks{drift: drift, own: 1 << 40, other: 1<<41 + 5}
					var list []table.Entry
					rest := pattern
					for range 4 {
						c.run(steps, rest/2%3-1)
						list = append(list, at(c.own, c.other-c.own+(rest%2*2-1)*wrong))
						rest /= 6
					}
					near(t, c, wrong, list)
					for range 3 {
						c.run(2*steps, rest-1)
						near(t, c, wrong, list)
					}
				}
			}
		}
	}
}

// P14.3: of clocks that go in any way, and tables to which up to twenty entries were added, some of them too far apart for a slope.
func TestGlobalIsNearOfDrawnClocks(t *testing.T) {
	var s spread = 41
	for range 1500 {
		c := clocks{drift: s.between(0, 10), own: s.between(0, maxTime/2), other: s.between(0, maxTime/2)}
		wrong := s.between(0, 20)
		pause := 1 << s.between(0, 11)
		var list []table.Entry
		for range s.between(1, 20) {
			way := s.between(-1, 1)
			for range s.between(1, pause) {
				c.own += 1000 + s.between(-c.drift, c.drift)
				c.other += 1000 + s.between(-c.drift, c.drift)
			}
			c.run(s.between(0, pause), way)
			if len(list) > 0 && s.between(0, 1) == 0 {
				near(t, c, wrong, list)
			}
			if len(list) > 0 && list[len(list)-1].Local == c.own {
				continue
			}
			list = append(list, at(c.own, c.other-c.own+s.between(-wrong, wrong)))
			near(t, c, wrong, list)
		}
	}
}

// P14.3: of times between the entries, too, if what is gained is reckoned to the newest of them.
func TestGlobalIsNearBetweenEntries(t *testing.T) {
	var s spread = 5
	for range 400 {
		c := clocks{drift: s.between(0, 10), own: s.between(0, maxTime/2), other: s.between(0, maxTime/2)}
		wrong := s.between(0, 20)
		var list []table.Entry
		var seen []clocks
		for range 8 {
			way := s.between(-1, 1)
			for range s.between(1, 60) {
				c.run(1, way)
				seen = append(seen, c)
			}
			list = append(list, at(c.own, c.other-c.own+s.between(-wrong, wrong)))
		}
		m := mapOf(t, c.drift, list...)
		bound := wrong + 2*slope.Most(c.drift).Gain(c.own-list[0].Local) + 4
		for _, then := range seen {
			if then.own < list[0].Local {
				continue
			}
			if got, ok := m.Global(then.own); !ok || got < then.other-bound || got > then.other+bound {
				t.Fatalf("drift %d, wrong by %d, %v: at %d it was %d, and %d, %v is told", c.drift, wrong, list, then.own, then.other, got, ok)
			}
		}
	}
}
