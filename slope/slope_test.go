package slope

import (
	"math"
	"math/big"
	"slices"
	"testing"

	"angelus/table"
)

const (
	least    = math.MinInt
	greatest = math.MaxInt
	maxTime  = 1 << 50
	far      = 1 << 22
)

// none is what Of answers where no slope is told.
var none = Slope{Num: 0, Den: 1}

// drifts are those at both bounds, beside them, between them, beyond them, and at the edges of their type.
var drifts = []int{least, least + 1, -1000, -11, -10, -1, 0, 1, 2, 3, 5, 7, 9, 10, 11, 12, 999, 1000, 1001, 1 << 32, 1<<32 + 5, greatest - 1, greatest}

// spread tells numbers that look as if drawn, the same ones every time.
type spread uint64

func (s *spread) next() uint64 {
	*s = *s*6364136223846793005 + 1442695040888963407
	return uint64(*s >> 11)
}

// between is one of the numbers from low to high, both meant.
func (s *spread) between(low, high int) int {
	return low + int(s.next()%uint64(high-low+1))
}

// at is an entry over one hop.
func at(local, offset int) table.Entry {
	return table.Entry{Local: local, Offset: offset, Hops: 1}
}

// line is the entries, of given Locals, of a clock that gains rise for each run of ticks.
func line(rise, run int, steps ...int) []table.Entry {
	var list []table.Entry
	for _, k := range steps {
		list = append(list, at(maxTime/2+k*run, -77+k*rise))
	}
	return list
}

// drift is one that counts: none is below 0 or above 10.
func drift(d int) int {
	if d < 0 {
		return 0
	}
	if d > 10 {
		return 10
	}
	return d
}

// can: whether an entry can be, kept apart from layer 12's Good.
func can(e table.Entry) bool {
	return e.Local >= 0 && e.Local <= maxTime && e.Offset >= -maxTime && e.Offset <= maxTime && e.Hops >= 1 && e.Hops <= 63
}

// fitting: whether entries are such as a slope is told of.
func fitting(list []table.Entry) bool {
	if len(list) < 2 || len(list) > 8 {
		return false
	}
	for _, e := range list {
		if !can(e) {
			return false
		}
	}
	for _, e := range list {
		x, y := e.Local-list[0].Local, e.Offset-list[0].Offset
		if x < 0 || x > far || y < -far || y > far {
			return false
		}
	}
	return true
}

// sum is that of f of all entries, as a number of any size.
func sum(list []table.Entry, f func(x, y *big.Int) *big.Int) *big.Int {
	all := new(big.Int)
	for _, e := range list {
		x := new(big.Int).Sub(big.NewInt(int64(e.Local)), big.NewInt(int64(list[0].Local)))
		y := new(big.Int).Sub(big.NewInt(int64(e.Offset)), big.NewInt(int64(list[0].Offset)))
		all.Add(all, f(x, y))
	}
	return all
}

// plain reckons a slope with numbers of any size.
func plain(d int, list []table.Entry) Slope {
	if !fitting(list) {
		return none
	}
	n := big.NewInt(int64(len(list)))
	x := sum(list, func(x, _ *big.Int) *big.Int { return x })
	y := sum(list, func(_, y *big.Int) *big.Int { return y })
	xy := sum(list, func(x, y *big.Int) *big.Int { return new(big.Int).Mul(x, y) })
	xx := sum(list, func(x, _ *big.Int) *big.Int { return new(big.Int).Mul(x, x) })
	num := new(big.Int).Sub(new(big.Int).Mul(n, xy), new(big.Int).Mul(x, y))
	den := new(big.Int).Sub(new(big.Int).Mul(n, xx), new(big.Int).Mul(x, x))
	if den.Sign() == 0 {
		return none
	}
	most := big.NewRat(int64(2*drift(d)), int64(1000-drift(d)))
	own := new(big.Rat).SetFrac(num, den)
	if own.Cmp(most) > 0 {
		return Slope{Num: 2 * drift(d), Den: 1000 - drift(d)}
	}
	if own.Cmp(new(big.Rat).Neg(most)) < 0 {
		return Slope{Num: -2 * drift(d), Den: 1000 - drift(d)}
	}
	return Slope{Num: int(num.Int64()), Den: int(den.Int64())}
}

// gained reckons a gain with numbers of any size.
func gained(s Slope, ticks int) int {
	if s.Den < 1 {
		return 0
	}
	product := new(big.Int).Mul(big.NewInt(int64(s.Num)), big.NewInt(int64(ticks)))
	// Of divisors above 0 Euclid's quotient is the one that is rounded down.
	quotient := new(big.Int).Div(product, big.NewInt(int64(s.Den)))
	if !quotient.IsInt64() {
		return 0
	}
	return int(quotient.Int64())
}

// value is a slope's, as a fraction of no one's numbers.
func value(s Slope) *big.Rat {
	return big.NewRat(int64(s.Num), int64(s.Den))
}

// holds fails, unless Of answers, of every drift, what is reckoned plainly, changes no entry, and answers none beyond the greatest.
func holds(t *testing.T, list ...table.Entry) {
	t.Helper()
	room := append(slices.Clone(list), at(1, 2), at(3, 4))
	handed := room[:len(list)]
	was := slices.Clone(room)
	for _, d := range drifts {
		got := Of(d, handed...)
		if want := plain(d, list); got != want {
			t.Fatalf("drift %d, %v: %v, not %v", d, list, got, want)
		}
		if !slices.Equal(room, was) {
			t.Fatalf("drift %d: %v became %v", d, was, room)
		}
		bounded(t, d, got)
	}
}

// bounded fails, if a slope is greater than Most, or less than its opposite.
func bounded(t *testing.T, d int, s Slope) {
	t.Helper()
	if s.Den < 1 {
		t.Fatalf("drift %d: %v", d, s)
	}
	most := value(Most(d))
	if value(s).Cmp(most) > 0 || value(s).Cmp(new(big.Rat).Neg(most)) < 0 {
		t.Fatalf("drift %d: %v is beyond %v", d, s, most)
	}
}

// P13.1
func TestMost(t *testing.T) {
	for d, want := range map[int]Slope{
		0: {0, 1000}, 1: {2, 999}, 2: {4, 998}, 3: {6, 997}, 5: {10, 995}, 9: {18, 991}, 10: {20, 990},
		-1: {0, 1000}, -10: {0, 1000}, least: {0, 1000}, least + 1: {0, 1000},
		11: {20, 990}, 12: {20, 990}, 1000: {20, 990}, 1001: {20, 990}, 1 << 32: {20, 990}, greatest: {20, 990},
	} {
		if got := Most(d); got != want {
			t.Errorf("%d: %v, not %v", d, got, want)
		}
	}
	for _, d := range drifts {
		if got, want := Most(d), (Slope{2 * drift(d), 1000 - drift(d)}); got != want {
			t.Errorf("%d: %v, not %v", d, got, want)
		}
	}
}

// P13.1
func TestExamples(t *testing.T) {
	list := []table.Entry{at(0, 0), at(1000, 5)}
	if got := Of(10, list...); got != (Slope{5000, 1000000}) {
		t.Errorf("drift 10: %v", got)
	}
	if got := Of(1, list...); got != (Slope{2, 999}) {
		t.Errorf("drift 1: %v", got)
	}
}

// P13.1
func TestOfHowMany(t *testing.T) {
	var list []table.Entry
	for n := 0; n <= 12; n++ {
		got := Of(10, list...)
		if (n < 2 || n > 8) != (got == none) {
			t.Errorf("%d entries: %v", n, got)
		}
		holds(t, list...)
		list = append(list, at(70+1000*n, -9+2*n+n%3))
	}
	if Of(10) != none || Of(10, []table.Entry{}...) != none || Of(10, nil...) != none {
		t.Error("of no entries there is a slope")
	}
	if got := Of(10, at(5, 5), at(1005, 7)); got != (Slope{2000, 1000000}) {
		t.Errorf("of two: %v", got)
	}
	if Of(10, make([]table.Entry, 1000)...) != none {
		t.Error("of a thousand there is a slope")
	}
}

// wrong is entries that can't be, one for each bound and each edge of a field, near an entry that can.
func wrong() []table.Entry {
	var list []table.Entry
	for _, bad := range []int{least, least + 1, -1 << 32, -1, maxTime + 1, greatest - 1, greatest} {
		list = append(list, table.Entry{Local: bad, Offset: 3, Hops: 1})
	}
	for _, bad := range []int{least, least + 1, -maxTime - 1, maxTime + 1, greatest - 1, greatest} {
		list = append(list, table.Entry{Local: 500, Offset: bad, Hops: 1})
	}
	for _, bad := range []int{least, -1, 0, 64, 65, 1 << 32, 1<<32 + 1, greatest} {
		list = append(list, table.Entry{Local: 500, Offset: 3, Hops: bad})
	}
	return list
}

// P13.1
func TestOfOneThatCantBe(t *testing.T) {
	for n := 2; n <= 8; n++ {
		for place := range n {
			for _, bad := range wrong() {
				var list []table.Entry
				for i := range n {
					list = append(list, at(10+100*i, i))
				}
				list[place] = bad
				for _, d := range drifts {
					if got := Of(d, list...); got != none {
						t.Fatalf("drift %d, %v: %v", d, list, got)
					}
				}
				holds(t, list...)
			}
		}
	}
}

// P13.1
func TestOfOneBeyondItsBoundsByOne(t *testing.T) {
	// Near each bound, so that only the bound tells that there is no slope.
	for _, c := range []struct {
		can, cant []table.Entry
	}{
		{[]table.Entry{at(0, 0), at(1000, 1)}, []table.Entry{at(-1, 0), at(999, 1)}},
		{[]table.Entry{at(maxTime-1000, 0), at(maxTime, 1)}, []table.Entry{at(maxTime-999, 0), at(maxTime+1, 1)}},
		{[]table.Entry{at(0, -maxTime), at(1000, 1-maxTime)}, []table.Entry{at(0, -maxTime-1), at(1000, -maxTime)}},
		{[]table.Entry{at(0, maxTime-1), at(1000, maxTime)}, []table.Entry{at(0, maxTime), at(1000, maxTime+1)}},
		{[]table.Entry{{Local: 0, Offset: 0, Hops: 1}, {Local: 1000, Offset: 1, Hops: 63}}, []table.Entry{{Local: 0, Offset: 0, Hops: 0}, {Local: 1000, Offset: 1, Hops: 63}}},
		{[]table.Entry{{Local: 0, Offset: 0, Hops: 63}, {Local: 1000, Offset: 1, Hops: 1}}, []table.Entry{{Local: 0, Offset: 0, Hops: 63}, {Local: 1000, Offset: 1, Hops: 64}}},
	} {
		if got := Of(10, c.can...); got != (Slope{1000, 1000000}) {
			t.Errorf("%v: %v", c.can, got)
		}
		if got := Of(10, c.cant...); got != none {
			t.Errorf("%v: %v", c.cant, got)
		}
		holds(t, c.can...)
		holds(t, c.cant...)
	}
}

// P13.1
func TestOfHowFarApart(t *testing.T) {
	for _, c := range []struct {
		x, y int
		told bool
	}{
		{0, 0, true}, {1, 0, true}, {far - 1, 0, true}, {far, 0, true}, {far + 1, 0, false}, {far + 2, 0, false}, {maxTime / 2, 0, false},
		{-1, 0, false}, {-2, 0, false}, {-far, 0, false}, {-far - 1, 0, false}, {-maxTime / 4, 0, false},
		{1000, far, true}, {1000, far + 1, false}, {1000, -far, true}, {1000, -far - 1, false}, {1000, maxTime / 2, false}, {1000, -maxTime / 2, false},
		{far, far, true}, {far, -far, true}, {far + 1, far, false}, {far, far + 1, false}, {0, far, true}, {0, -far, true}, {0, far + 1, false},
		{1 << 32, 0, false}, {1<<32 + 5, 0, false}, {1000, 1 << 32, false}, {1000, -1 << 32, false}, {1000, 1<<32 + 7, false},
	} {
		for _, first := range []table.Entry{at(maxTime/4, 0), at(maxTime/3, -12345), at(maxTime/2, maxTime/3)} {
			other := at(first.Local+c.x, first.Offset+c.y)
			// The middle one makes sure that the denominator isn't 0.
			middle := at(first.Local+9, first.Offset)
			for _, list := range [][]table.Entry{{first, middle, other}, {first, other, middle}} {
				if got := Of(0, list...); (got != none) != c.told {
					t.Errorf("x %d, y %d: %v", c.x, c.y, got)
				}
				holds(t, list...)
			}
		}
	}
}

// P13.1
func TestOfTheGreatestDistanceFromTheFirstAlone(t *testing.T) {
	// Entries twice as far from one another in Offset as one may be from the first one.
	list := []table.Entry{at(0, 0), at(far, far), at(far, -far), at(0, far), at(0, -far)}
	holds(t, list...)
	if Of(10, list...) == none {
		t.Error("there is no slope")
	}
	if Of(10, list[2], list[0], list[1]) != none || Of(10, at(far, -far), at(far, far)) != none {
		t.Error("there is a slope")
	}
}

// P13.1
func TestOfOneLocal(t *testing.T) {
	for n := 2; n <= 8; n++ {
		for _, local := range []int{0, 1, 1000, maxTime} {
			var list []table.Entry
			for i := range n {
				list = append(list, at(local, i*i*1000))
			}
			if got := Of(10, list...); got != none {
				t.Errorf("%v: %v", list, got)
			}
			holds(t, list...)
		}
	}
	// One other Local is enough.
	if got := Of(10, at(5, 0), at(5, 0), at(5, 0), at(6, 0)); got != (Slope{0, 3}) {
		t.Errorf("one other: %v", got)
	}
}

// P13.1
func TestOfLocalsThatDontRise(t *testing.T) {
	for _, list := range [][]table.Entry{
		{at(0, 0), at(2000, 9), at(1000, 3)},
		{at(7, 4), at(7, 4), at(1007, 8)},
		{at(7, 4), at(1007, 8), at(7, 4)},
		{at(100, 0), at(3100, 12), at(2100, -7), at(2100, 4), at(100, 3), at(1100, 3)},
	} {
		if Of(10, list...) == none {
			t.Errorf("%v: no slope", list)
		}
		holds(t, list...)
	}
	// Of three entries the slope is the same in every order in which the first one has the least Local.
	a, b, c := at(50, 2), at(900, 7), at(1800, 3)
	if got := Of(10, a, b, c); got != Of(10, a, c, b) || got == none {
		t.Errorf("%v and %v", got, Of(10, a, c, b))
	}
	for _, list := range [][]table.Entry{{b, a, c}, {b, c, a}, {c, a, b}, {c, b, a}} {
		if got := Of(10, list...); got != none {
			t.Errorf("%v: %v", list, got)
		}
	}
}

// P13.1
func TestOfIsNotShortened(t *testing.T) {
	for _, c := range []struct {
		list []table.Entry
		want Slope
	}{
		{[]table.Entry{at(0, 0), at(1000, 5)}, Slope{5000, 1000000}},
		{[]table.Entry{at(0, 0), at(1000, -5)}, Slope{-5000, 1000000}},
		{[]table.Entry{at(0, 0), at(1000, 0)}, Slope{0, 1000000}},
		{[]table.Entry{at(0, 7), at(1, 7)}, Slope{0, 1}},
		{[]table.Entry{at(0, 7), at(2, 7)}, Slope{0, 4}},
		{[]table.Entry{at(0, 0), at(1000, 0), at(2000, 6)}, Slope{18000, 6000000}},
		{[]table.Entry{at(0, 0), at(1000, 2), at(2000, 4)}, Slope{12000, 6000000}},
		{[]table.Entry{at(0, 0), at(far, 0)}, Slope{0, 1 << 44}},
	} {
		if got := Of(10, c.list...); got != c.want {
			t.Errorf("%v: %v, not %v", c.list, got, c.want)
		}
		holds(t, c.list...)
	}
}

// P13.1
func TestOfAboutTheGreatest(t *testing.T) {
	for _, d := range drifts {
		num, den := 2*drift(d), 1000-drift(d)
		for _, k := range []int{1, 2, 3, 7, 100, 1000, 4000} {
			for _, sign := range []int{1, -1} {
				x, y := k*den, sign*k*num
				// Just the greatest is no more than it, and stays as it is.
				if got, want := Of(d, at(9, 5), at(9+x, 5+y)), (Slope{x * y, x * x}); got != want {
					t.Errorf("drift %d, %d and %d: %v, not %v", d, x, y, got, want)
				}
				bound := Slope{sign * num, den}
				for _, above := range []table.Entry{at(9+x, 5+y+sign), at(9+x-1, 5+y+sign)} {
					if got := Of(d, at(9, 5), above); got != bound {
						t.Errorf("drift %d, %v: %v, not %v", d, above, got, bound)
					}
				}
				if num > 0 {
					if got, want := Of(d, at(9, 5), at(9+x, 5+y-sign)), (Slope{x * (y - sign), x * x}); got != want {
						t.Errorf("drift %d: %v, not %v", d, got, want)
					}
					if got, want := Of(d, at(9, 5), at(10+x, 5+y)), (Slope{(x + 1) * y, (x + 1) * (x + 1)}); got != want {
						t.Errorf("drift %d: %v, not %v", d, got, want)
					}
					if got := Of(d, at(9, 5), at(8+x, 5+y)); got != bound {
						t.Errorf("drift %d: %v, not %v", d, got, bound)
					}
				}
				holds(t, at(9, 5), at(9+x, 5+y))
				holds(t, at(9, 5), at(10+x, 5+y))
				holds(t, at(9, 5), at(8+x, 5+y))
			}
		}
	}
}

// P13.1
func TestOfALittleBesideTheGreatestWhereSumsAreGreat(t *testing.T) {
	// Distances so great that fractions rounded to floats, or to so many digits, were the same.
	for _, d := range drifts {
		num, den := 2*drift(d), 1000-drift(d)
		k := far / 1000
		for moved := -2; moved <= 2; moved++ {
			for _, sign := range []int{1, -1} {
				list := []table.Entry{at(0, 0)}
				for i := 1; i < 8; i++ {
					list = append(list, at(k*den/7*7-i, sign*k*num))
				}
				list[3].Offset += moved
				holds(t, list...)
			}
		}
	}
	for moved := -3; moved <= 3; moved++ {
		list := line(20, 990, 0, 1000, 2000, 3000, 4000, 4100, 4200)
		list[6].Offset += moved
		got := Of(10, list...)
		if (moved > 0) != (got == Slope{20, 990}) {
			t.Errorf("moved by %d: %v", moved, got)
		}
		holds(t, list...)
		list = line(-20, 990, 0, 1000, 2000, 3000, 4000, 4100, 4200)
		list[6].Offset += moved
		got = Of(10, list...)
		if (moved < 0) != (got == Slope{-20, 990}) {
			t.Errorf("moved by %d: %v", moved, got)
		}
		holds(t, list...)
	}
}

// P13.1
func TestOfTheEndsOfWhatMayBe(t *testing.T) {
	// Each of seven entries stands at one of the ends, in every way that makes a difference.
	ends := []int{-far, 0, far}
	for pattern := range 1 << 14 {
		list := []table.Entry{at(maxTime-far, 0)}
		for i := range 7 {
			x, y := pattern>>(2*i)&1, pattern>>(2*i+1)&1
			list = append(list, at(maxTime-far+x*far, ends[2*y]))
		}
		for _, d := range []int{0, 10} {
			if got, want := Of(d, list...), plain(d, list); got != want {
				t.Fatalf("drift %d, %v: %v, not %v", d, list, got, want)
			}
		}
	}
	for _, offset := range []int{-maxTime, maxTime - far} {
		for _, local := range []int{0, maxTime - far} {
			var list []table.Entry
			for i := range 8 {
				list = append(list, at(local+i/4*far, offset+i%2*far))
			}
			holds(t, list...)
			if got := Of(10, list...); got != (Slope{0, 16 << 44}) {
				t.Errorf("%v: %v", list, got)
			}
		}
	}
}

// P13.1, P13.2
func TestOfSpreadEntries(t *testing.T) {
	var s spread = 13
	for range 2500 {
		n := s.between(2, 8)
		reachX := 1 << s.between(1, 22)
		reachY := 1 << s.between(0, 22)
		first := at(s.between(0, maxTime-far), s.between(-maxTime+far, maxTime-far))
		list := []table.Entry{first}
		for len(list) < n {
			list = append(list, at(first.Local+s.between(0, reachX), first.Offset+s.between(-reachY, reachY)))
		}
		holds(t, list...)
	}
}

// P13.1, P13.2
func TestOfSpreadEntriesNearALine(t *testing.T) {
	var s spread = 31
	inner := 0
	for range 2500 {
		list := []table.Entry{at(s.between(0, maxTime-far), s.between(-maxTime+far, maxTime-far))}
		rise := s.between(-30, 30)
		for len(list) < 8 {
			x := s.between(1, far)
			list = append(list, at(list[0].Local+x, list[0].Offset+x*rise/1000+s.between(-20, 20)))
		}
		holds(t, list...)
		if got := Of(10, list...); got.Den != 990 {
			inner++
		}
	}
	if inner < 600 || inner > 2400 {
		t.Errorf("%d of 2500 have a slope of their own", inner)
	}
}

// P13.1: any entries, most of which can't be, are told without a panic.
func TestOfAnyEntries(t *testing.T) {
	var s spread = 77
	edges := []int{least, least + 1, -maxTime - 1, -maxTime, -far, -1, 0, 1, far, far + 1, maxTime - 1, maxTime, maxTime + 1, greatest - 1, greatest}
	for range 2500 {
		var list []table.Entry
		for range s.between(0, 10) {
			list = append(list, table.Entry{Local: edges[s.between(0, len(edges)-1)], Offset: edges[s.between(0, len(edges)-1)], Hops: s.between(0, 64)})
		}
		holds(t, list...)
	}
}

// P13.1: hops beyond 1 change nothing.
func TestOfHops(t *testing.T) {
	list := line(7, 1000, 0, 1, 2, 5)
	want := Of(10, list...)
	for hops := 1; hops <= 63; hops++ {
		for i := range list {
			list[i].Hops = (hops+i*20-1)%63 + 1
		}
		if got := Of(10, list...); got != want {
			t.Errorf("%v: %v, not %v", list, got, want)
		}
	}
}

// P13.1
func TestGain(t *testing.T) {
	for _, c := range []struct {
		s     Slope
		ticks int
		want  int
	}{
		{Slope{2, 999}, 0, 0}, {Slope{2, 999}, 1, 0}, {Slope{2, 999}, 499, 0}, {Slope{2, 999}, 500, 1}, {Slope{2, 999}, 999, 2}, {Slope{2, 999}, 1000, 2},
		{Slope{2, 999}, -1, -1}, {Slope{2, 999}, -499, -1}, {Slope{2, 999}, -500, -2}, {Slope{2, 999}, -999, -2}, {Slope{2, 999}, -1000, -3},
		{Slope{-2, 999}, 0, 0}, {Slope{-2, 999}, 1, -1}, {Slope{-2, 999}, 999, -2}, {Slope{-2, 999}, 1000, -3}, {Slope{-2, 999}, -1, 0}, {Slope{-2, 999}, -999, 2}, {Slope{-2, 999}, -1000, 2},
		{Slope{0, 1000}, 12345, 0}, {Slope{0, 1000}, -12345, 0}, {Slope{0, 1}, greatest, 0}, {Slope{0, 1}, least, 0},
		{Slope{}, 5, 0}, {Slope{}, 0, 0}, {Slope{}, least, 0}, {Slope{5, 0}, 5, 0}, {Slope{5, -1}, 5, 0}, {Slope{-5, -1}, 5, 0}, {Slope{5, least}, greatest, 0}, {Slope{least, least}, least, 0},
		{Slope{1, 1}, greatest, greatest}, {Slope{1, 1}, least, least}, {Slope{-1, 1}, greatest, -greatest}, {Slope{-1, 1}, least, 0}, {Slope{-1, 2}, least, 1 << 62},
		{Slope{2, 1}, greatest, 0}, {Slope{2, 1}, 1 << 62, 0}, {Slope{2, 1}, 1<<62 - 1, greatest - 1}, {Slope{2, 1}, -1 << 62, least}, {Slope{2, 1}, -1<<62 - 1, 0},
		{Slope{greatest, greatest}, greatest, greatest}, {Slope{greatest, greatest}, least, least}, {Slope{least, greatest}, greatest, least}, {Slope{least, greatest}, least, 0},
		{Slope{greatest, 1}, 2, 0}, {Slope{greatest, 2}, 2, greatest}, {Slope{least, 3}, 3, least}, {Slope{1 << 50, 1 << 49}, 1 << 50, 1 << 51},
	} {
		if got := c.s.Gain(c.ticks); got != c.want {
			t.Errorf("%v, %d: %d, not %d", c.s, c.ticks, got, c.want)
		}
		if got := gained(c.s, c.ticks); got != c.want {
			t.Errorf("reckoned %v, %d: %d, not %d", c.s, c.ticks, got, c.want)
		}
	}
}

// P13.1
func TestGainOfManyNumbers(t *testing.T) {
	numbers := []int{least, least + 1, -1 << 62, -maxTime, -1 << 32, -1000, -20, -1, 0, 1, 2, 20, 990, 1000, 1<<32 - 1, 1 << 32, maxTime, 1 << 62, greatest - 1, greatest}
	for _, num := range numbers {
		for _, den := range numbers {
			for _, ticks := range numbers {
				s := Slope{Num: num, Den: den}
				if got, want := s.Gain(ticks), gained(s, ticks); got != want {
					t.Fatalf("%v, %d: %d, not %d", s, ticks, got, want)
				}
			}
		}
	}
	var spr spread = 5
	for range 20000 {
		s := Slope{Num: spr.between(-1<<50, 1<<50), Den: spr.between(1, 1<<50)}
		ticks := spr.between(-maxTime, maxTime)
		if got, want := s.Gain(ticks), gained(s, ticks); got != want {
			t.Fatalf("%v, %d: %d, not %d", s, ticks, got, want)
		}
	}
}

// P13.2
func TestNoSlopeBeyondTheGreatest(t *testing.T) {
	for _, y := range []int{-far, -1000, -21, -20, -19, -1, 0, 1, 19, 20, 21, 1000, far} {
		for _, x := range []int{0, 1, 2, 989, 990, 991, 1000, far - 1, far, far + 1} {
			for _, d := range drifts {
				bounded(t, d, Of(d, at(3, 3), at(3+x, 3+y)))
			}
		}
	}
	for _, d := range drifts {
		bounded(t, d, Most(d))
		bounded(t, d, Of(d))
	}
}

// P13.2
func TestLinesHaveTheirSlope(t *testing.T) {
	for _, steps := range [][]int{{0, 1}, {0, 7}, {0, 1, 2}, {0, 5, 1}, {0, 0, 3}, {0, 1, 2, 3, 4, 5, 6, 7}, {0, 9, 8, 7, 3, 3, 1, 12}, {2, 3, 4}} {
		for rise := -25; rise <= 25; rise++ {
			for _, run := range []int{1, 2, 899, 989, 990, 991, 999, 1000, 1001, 99991, far / 12} {
				list := line(rise, run, steps...)
				for _, d := range drifts {
					own, most := big.NewRat(int64(rise), int64(run)), value(Most(d))
					want := own
					if own.Cmp(most) > 0 {
						want = most
					} else if opposite := new(big.Rat).Neg(most); own.Cmp(opposite) < 0 {
						want = opposite
					}
					if got := value(Of(d, list...)); got.Cmp(want) != 0 {
						t.Fatalf("drift %d, %v: %v, not %v", d, list, got, want)
					}
				}
			}
		}
	}
}

// P13.2
func TestMovedEntriesHaveTheSameSlope(t *testing.T) {
	var s spread = 99
	for range 2000 {
		first := at(s.between(0, far), s.between(-far, far))
		list := []table.Entry{first}
		for range s.between(1, 7) {
			x := s.between(0, far)
			list = append(list, at(first.Local+x, first.Offset+s.between(-25, 25)*x/1000+s.between(-3, 3)))
		}
		d := s.between(0, 10)
		want := Of(d, list...)
		for _, local := range []int{0, 1, 1000, s.between(0, maxTime/2), maxTime - 2*far} {
			for _, offset := range []int{0, 1, -1, s.between(-maxTime/2, maxTime/2), maxTime - 2*far, 2*far - maxTime} {
				moved := slices.Clone(list)
				for i := range moved {
					moved[i].Local += local
					moved[i].Offset += offset
				}
				if !fitting(moved) {
					t.Fatalf("%v can't be", moved)
				}
				if got := Of(d, moved...); got != want {
					t.Fatalf("drift %d, %v by %d and %d: %v, not %v", d, list, local, offset, got, want)
				}
			}
		}
	}
}
