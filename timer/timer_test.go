package timer

import (
	"math"
	"slices"
	"sort"
	"testing"

	"angelus/api"
)

// item is something in a plain list: when it is due, and the how manieth Set that was.
type item struct{ at, what, turn int }

// plain is what a row is to be, as the chapter tells it: a list without an order, and how often it was set.
type plain struct {
	items []item
	turns int
}

// has answers whether something is due.
func (p *plain) has(what int) bool {
	return slices.ContainsFunc(p.items, func(i item) bool { return i.what == what })
}

// take takes out what is asked for, and answers it in order.
func (p *plain) take(asked func(item) bool) []item {
	var taken, left []item
	for _, i := range p.items {
		if asked(i) {
			taken = append(taken, i)
		} else {
			left = append(left, i)
		}
	}
	p.items = left
	sort.Slice(taken, func(a, b int) bool {
		if taken[a].at != taken[b].at {
			return taken[a].at < taken[b].at
		}
		return taken[a].turn < taken[b].turn
	})
	return taken
}

// set is what Set is to do, and to answer.
func (p *plain) set(at, what int) api.Errno {
	if !p.has(what) && len(p.items) == 16 {
		return 6
	}
	p.drop(what)
	p.turns++
	p.items = append(p.items, item{at, what, p.turns})
	return 0
}

// drop is what Drop is to do, and to answer.
func (p *plain) drop(what int) bool {
	return len(p.take(func(i item) bool { return i.what == what })) > 0
}

// due is what Due is to do, and to answer.
func (p *plain) due(now int) []int {
	var list []int
	for _, i := range p.take(func(i item) bool { return i.at <= now }) {
		list = append(list, i.what)
	}
	return list
}

// all is what All is to go over.
func (p *plain) all() [][2]int {
	copied := plain{items: p.items}
	var list [][2]int
	for _, i := range copied.take(func(item) bool { return true }) {
		list = append(list, [2]int{i.at, i.what})
	}
	return list
}

// told is what a row's All goes over.
func told(r *Row) [][2]int {
	var list [][2]int
	for at, what := range r.All() {
		list = append(list, [2]int{at, what})
	}
	return list
}

// holds fails, unless that is due in a row, in that order.
func holds(t *testing.T, r *Row, want ...[2]int) {
	t.Helper()
	if got := told(r); !slices.Equal(got, want) {
		t.Fatalf("due is %v, not %v", got, want)
	}
	if got := r.Len(); got != len(want) {
		t.Fatalf("Len: %d, not %d", got, len(want))
	}
}

// sets sets entries, each a time and what is due then, and fails, unless there is room.
func sets(t *testing.T, r *Row, list ...[2]int) {
	t.Helper()
	for _, e := range list {
		if code := r.Set(e[0], e[1]); code != api.OK {
			t.Fatalf("Set(%d, %d): %d", e[0], e[1], code)
		}
	}
}

// made is a row in which entries are due, set in their order.
func made(t *testing.T, list ...[2]int) *Row {
	t.Helper()
	r := new(Row)
	sets(t, r, list...)
	return r
}

// falls fails, unless that is due at a time, in that order.
func falls(t *testing.T, r *Row, now int, want ...int) {
	t.Helper()
	if got := r.Due(now); !slices.Equal(got, want) {
		t.Fatalf("Due(%d): %v, not %v", now, got, want)
	}
}

// drops fails, unless Drop answers that.
func drops(t *testing.T, r *Row, what int, want bool) {
	t.Helper()
	if got := r.Drop(what); got != want {
		t.Fatalf("Drop(%d): %v, not %v", what, got, want)
	}
}

// edges are numbers at the edges of their type and of smaller ones, rising; as times and as what is due.
func edges() []int {
	return []int{math.MinInt, math.MinInt + 1, -1 << 32, math.MinInt32, -256, -1, 0, 1, 255, 256, math.MaxInt32, 1 << 32, 1<<32 + 1, api.MaxTime, math.MaxInt - 1, math.MaxInt}
}

// pairs is entries of those times: at each one is due what is as many as its place and that.
func pairs(times []int, first int) [][2]int {
	list := [][2]int{}
	for place, at := range times {
		list = append(list, [2]int{at, first + place})
	}
	return list
}

// full is sixteen entries, in order, at times 10, 10, 20, 20 and so on.
func full() [][2]int {
	list := [][2]int{}
	for place := range 16 {
		list = append(list, [2]int{10 * (place/2 + 1), 100 + place})
	}
	return list
}

// spread is a row of numbers without a rule, the same in each run.
type spread uint32

// below answers the next one, from 0 on.
func (s *spread) below(n int) int {
	*s = *s*1664525 + 1013904223
	return int(*s>>8) % n
}

// mixed is entries in another order.
func (s *spread) mixed(list [][2]int) [][2]int {
	list = slices.Clone(list)
	for place := len(list) - 1; place > 0; place-- {
		other := s.below(place + 1)
		list[place], list[other] = list[other], list[place]
	}
	return list
}

// same fails, unless a row is what the plain list is.
func same(t *testing.T, r *Row, p *plain) {
	t.Helper()
	holds(t, r, p.all()...)
}

func TestANilRow(t *testing.T) { // P7.1
	var r *Row
	for _, at := range edges() {
		for _, what := range edges() {
			if code := r.Set(at, what); code != api.ErrNil {
				t.Fatalf("Set(%d, %d): %d", at, what, code)
			}
			drops(t, r, what, false)
			falls(t, r, at)
			holds(t, r)
		}
	}
	all := r.All()
	if all == nil {
		t.Fatal("All: nil")
	}
	for range 2 {
		all(func(at, what int) bool {
			t.Fatalf("%d at %d", what, at)
			return true
		})
	}
}

func TestAnEmptyRow(t *testing.T) { // P7.1
	var r Row
	for _, n := range edges() {
		holds(t, &r)
		drops(t, &r, n, false)
		falls(t, &r, n)
		holds(t, &r)
	}
	sets(t, &r, [2]int{0, 0})
	holds(t, &r, [2]int{0, 0})
	// Emptied, it is as an empty one.
	falls(t, &r, 0, 0)
	holds(t, &r)
	drops(t, &r, 0, false)
	falls(t, &r, math.MaxInt)
	holds(t, &r)
}

func TestTheChaptersExample(t *testing.T) { // P7.1
	const a, b, c = 1, 2, 3
	r := made(t, [2]int{7, a}, [2]int{3, b}, [2]int{7, c}, [2]int{9, a})
	holds(t, r, [2]int{3, b}, [2]int{7, c}, [2]int{9, a})
	falls(t, r, 8, b, c)
	holds(t, r, [2]int{9, a})
}

func TestSetOfTimesAtTheEdges(t *testing.T) { // P7.1
	want, seed := pairs(edges(), 0), spread(7)
	holds(t, made(t, want...), want...)
	back := slices.Clone(want)
	slices.Reverse(back)
	holds(t, made(t, back...), want...)
	for range 300 {
		holds(t, made(t, seed.mixed(want)...), want...)
	}
}

func TestSetOfTwoTimes(t *testing.T) { // P7.1
	for place, at := range edges() {
		for other, second := range edges() {
			r := made(t, [2]int{at, 1}, [2]int{second, 2})
			if other < place {
				holds(t, r, [2]int{second, 2}, [2]int{at, 1})
			} else {
				holds(t, r, [2]int{at, 1}, [2]int{second, 2})
			}
		}
	}
}

func TestSetOfTheSameTime(t *testing.T) { // P7.1
	for _, at := range edges() {
		r, want := new(Row), [][2]int{}
		// What was set first stands first, whatever its number.
		for _, what := range []int{5, 3, 9, -1, 0, math.MaxInt, math.MinInt, 8, 1, 7, 2, 6, 4, -9, -5, -7} {
			sets(t, r, [2]int{at, what})
			want = append(want, [2]int{at, what})
			holds(t, r, want...)
		}
		falls(t, r, at, 5, 3, 9, -1, 0, math.MaxInt, math.MinInt, 8, 1, 7, 2, 6, 4, -9, -5, -7)
		holds(t, r)
	}
}

func TestSetOfTheSameTimeBetweenOthers(t *testing.T) { // P7.1
	r := made(t, [2]int{5, 1}, [2]int{9, 2}, [2]int{1, 3}, [2]int{5, 4}, [2]int{9, 5}, [2]int{1, 6}, [2]int{5, 7}, [2]int{4, 8}, [2]int{6, 9})
	holds(t, r, [2]int{1, 3}, [2]int{1, 6}, [2]int{4, 8}, [2]int{5, 1}, [2]int{5, 4}, [2]int{5, 7}, [2]int{6, 9}, [2]int{9, 2}, [2]int{9, 5})
	falls(t, r, 5, 3, 6, 8, 1, 4, 7)
	falls(t, r, 9, 9, 2, 5)
}

func TestNumbersOfAnySize(t *testing.T) { // P7.1
	r, want := new(Row), [][2]int{}
	for place, what := range edges() {
		sets(t, r, [2]int{place, what})
		want = append(want, [2]int{place, what})
		holds(t, r, want...)
	}
	// Those that differ in a high bit alone are others, too.
	for _, what := range []int{2, -2, 1 << 33, 1<<32 + 255, math.MinInt + 255, math.MinInt + 256, math.MaxInt - 2, 1 << 62} {
		drops(t, r, what, false)
		if code := r.Set(0, what); code != api.ErrFull {
			t.Fatalf("Set(0, %d): %d", what, code)
		}
		holds(t, r, want...)
	}
	for _, what := range edges() {
		drops(t, r, what, true)
		want = want[1:]
		holds(t, r, want...)
	}
}

func TestSetOfWhatWasDueSooner(t *testing.T) { // P7.1
	r := made(t, [2]int{10, 1}, [2]int{20, 2}, [2]int{30, 3}, [2]int{40, 4})
	sets(t, r, [2]int{15, 4})
	holds(t, r, [2]int{10, 1}, [2]int{15, 4}, [2]int{20, 2}, [2]int{30, 3})
	// At another's time it stands behind that, since it is set now.
	sets(t, r, [2]int{10, 3})
	holds(t, r, [2]int{10, 1}, [2]int{10, 3}, [2]int{15, 4}, [2]int{20, 2})
	sets(t, r, [2]int{math.MinInt, 2})
	holds(t, r, [2]int{math.MinInt, 2}, [2]int{10, 1}, [2]int{10, 3}, [2]int{15, 4})
	falls(t, r, 9, 2)
	falls(t, r, 40, 1, 3, 4)
}

func TestSetOfWhatWasDueLater(t *testing.T) { // P7.1
	r := made(t, [2]int{10, 1}, [2]int{20, 2}, [2]int{30, 3}, [2]int{40, 4})
	sets(t, r, [2]int{25, 1})
	holds(t, r, [2]int{20, 2}, [2]int{25, 1}, [2]int{30, 3}, [2]int{40, 4})
	sets(t, r, [2]int{30, 2})
	holds(t, r, [2]int{25, 1}, [2]int{30, 3}, [2]int{30, 2}, [2]int{40, 4})
	sets(t, r, [2]int{math.MaxInt, 1})
	holds(t, r, [2]int{30, 3}, [2]int{30, 2}, [2]int{40, 4}, [2]int{math.MaxInt, 1})
	falls(t, r, 25)
	falls(t, r, math.MaxInt, 3, 2, 4, 1)
}

func TestSetOfWhatWasDueAtTheSameTime(t *testing.T) { // P7.1
	r := made(t, [2]int{5, 9}, [2]int{10, 1}, [2]int{10, 2}, [2]int{10, 3}, [2]int{20, 8})
	sets(t, r, [2]int{10, 1})
	holds(t, r, [2]int{5, 9}, [2]int{10, 2}, [2]int{10, 3}, [2]int{10, 1}, [2]int{20, 8})
	sets(t, r, [2]int{10, 3})
	holds(t, r, [2]int{5, 9}, [2]int{10, 2}, [2]int{10, 1}, [2]int{10, 3}, [2]int{20, 8})
	// The last one of its time stays where it is.
	sets(t, r, [2]int{10, 3}, [2]int{20, 8}, [2]int{5, 9})
	holds(t, r, [2]int{5, 9}, [2]int{10, 2}, [2]int{10, 1}, [2]int{10, 3}, [2]int{20, 8})
	// One that went away, and came again, is set last.
	sets(t, r, [2]int{7, 2}, [2]int{10, 2})
	holds(t, r, [2]int{5, 9}, [2]int{10, 1}, [2]int{10, 3}, [2]int{10, 2}, [2]int{20, 8})
	falls(t, r, 10, 9, 1, 3, 2)
}

func TestSetOfOneAlone(t *testing.T) { // P7.1
	r := new(Row)
	for _, at := range append(edges(), 5, 5, 4, 6, math.MinInt, math.MaxInt) {
		sets(t, r, [2]int{at, 7})
		holds(t, r, [2]int{at, 7})
	}
	falls(t, r, math.MaxInt-1)
	falls(t, r, math.MaxInt, 7)
	holds(t, r)
}

func TestSetWithFifteenOthers(t *testing.T) { // P7.1
	for _, at := range append(edges(), 9, 10, 11, 40, 79, 80, 81) {
		p := new(plain)
		r := made(t, full()[:15]...)
		for _, e := range full()[:15] {
			p.set(e[0], e[1])
		}
		sets(t, r, [2]int{at, 5})
		p.set(at, 5)
		same(t, r, p)
		if code := r.Set(at, 6); code != api.ErrFull {
			t.Fatalf("Set(%d, 6): %d", at, code)
		}
		same(t, r, p)
	}
}

func TestSetWithSixteenOthers(t *testing.T) { // P7.1
	r, want := made(t, full()...), full()
	for _, at := range append(edges(), 9, 10, 11, 40, 79, 80, 81) {
		for _, what := range append(edges(), 10, 99, 116) {
			if code := r.Set(at, what); code != api.ErrFull {
				t.Fatalf("Set(%d, %d): %d", at, what, code)
			}
			holds(t, r, want...)
			drops(t, r, what, false)
		}
	}
	// What was refused plays no part in what is due.
	falls(t, r, 9)
	for place := range 8 {
		falls(t, r, 10*(place+1), 100+2*place, 101+2*place)
	}
	falls(t, r, math.MaxInt)
	holds(t, r)
}

func TestSetOfOneOfSixteen(t *testing.T) { // P7.1
	for place := range 16 {
		for _, at := range append(edges(), 9, 10, 11, 40, 50, 79, 80, 81) {
			r, p := made(t, full()...), new(plain)
			for _, e := range full() {
				p.set(e[0], e[1])
			}
			sets(t, r, [2]int{at, 100 + place})
			p.set(at, 100+place)
			same(t, r, p)
			if code := r.Set(at, 99); code != api.ErrFull {
				t.Fatalf("Set(%d, 99): %d", at, code)
			}
			same(t, r, p)
		}
	}
}

func TestRoomIsMadeByDrop(t *testing.T) { // P7.1
	for place := range 16 {
		r := made(t, full()...)
		drops(t, r, 100+place, true)
		sets(t, r, [2]int{1000, 5})
		want := append(slices.Delete(full(), place, place+1), [2]int{1000, 5})
		holds(t, r, want...)
		if code := r.Set(0, 100+place); code != api.ErrFull {
			t.Fatalf("Set(0, %d): %d", 100+place, code)
		}
		holds(t, r, want...)
	}
}

func TestRoomIsMadeByDue(t *testing.T) { // P7.1
	r, want := made(t, full()...), full()
	for turn := range 200 {
		at := want[0][0]
		falls(t, r, at, want[0][1], want[1][1])
		first, second := [2]int{1000 + turn, 2 * turn}, [2]int{1000 + turn, 2*turn + 1}
		want = append(want[2:], first, second)
		sets(t, r, first, second)
		if code := r.Set(0, -1); code != api.ErrFull {
			t.Fatalf("Set(0, -1): %d", code)
		}
		holds(t, r, want...)
	}
}

func TestDrop(t *testing.T) { // P7.1
	for place := range 16 {
		r, want := made(t, full()...), slices.Delete(full(), place, place+1)
		drops(t, r, 99, false)
		drops(t, r, 116, false)
		drops(t, r, full()[place][0], false) // a time is no number of what is due
		holds(t, r, full()...)
		drops(t, r, 100+place, true)
		holds(t, r, want...)
		drops(t, r, 100+place, false)
		holds(t, r, want...)
		falls(t, r, 9)
		for at := 10; at <= 80; at += 10 {
			var list []int
			for _, e := range want {
				if e[0] == at {
					list = append(list, e[1])
				}
			}
			falls(t, r, at, list...)
		}
	}
}

func TestDropOfAll(t *testing.T) { // P7.1
	r, want := made(t, full()...), full()
	for _, place := range []int{15, 0, 7, 8, 1, 14, 3, 12, 2, 13, 5, 10, 4, 11, 6, 9} {
		want = slices.DeleteFunc(want, func(e [2]int) bool { return e[1] == 100+place })
		drops(t, r, 100+place, true)
		drops(t, r, 100+place, false)
		holds(t, r, want...)
	}
	falls(t, r, math.MaxInt)
	holds(t, r)
}

func TestDropAndSetAgain(t *testing.T) { // P7.1
	r := made(t, [2]int{10, 1}, [2]int{10, 2}, [2]int{10, 3})
	drops(t, r, 1, true)
	sets(t, r, [2]int{10, 1})
	holds(t, r, [2]int{10, 2}, [2]int{10, 3}, [2]int{10, 1})
	falls(t, r, 10, 2, 3, 1)
	drops(t, r, 1, false)
	sets(t, r, [2]int{10, 1})
	falls(t, r, 10, 1)
}

func TestDueBelowAtAndAboveEachTime(t *testing.T) { // P7.1, P7.2
	list := [][2]int{{-20, 1}, {-20, 2}, {-3, 3}, {0, 4}, {0, 5}, {0, 6}, {1, 7}, {2, 8}, {50, 9}, {50, 10}}
	for now := -25; now <= 55; now++ {
		p, r := new(plain), made(t, list...)
		for _, e := range list {
			p.set(e[0], e[1])
		}
		falls(t, r, now, p.due(now)...)
		same(t, r, p)
		// Twice the same: nothing is due a second time.
		falls(t, r, now)
		same(t, r, p)
		// A time below it tells nothing more, either.
		falls(t, r, now-1)
		falls(t, r, math.MinInt)
		same(t, r, p)
		falls(t, r, math.MaxInt, p.due(math.MaxInt)...)
		holds(t, r)
	}
}

func TestDueStepByStep(t *testing.T) { // P7.1, P7.2
	r := made(t, [2]int{7, 1}, [2]int{3, 2}, [2]int{7, 3}, [2]int{9, 4})
	for _, x := range []struct {
		now  int
		want []int
	}{{2, nil}, {3, []int{2}}, {3, nil}, {4, nil}, {6, nil}, {7, []int{1, 3}}, {7, nil}, {8, nil}, {9, []int{4}}, {9, nil}, {10, nil}} {
		falls(t, r, x.now, x.want...)
	}
	holds(t, r)
}

func TestDueAtTheEdges(t *testing.T) { // P7.1, P7.2
	list := pairs(edges(), 0)
	for count, now := range edges() {
		r := made(t, list...)
		var want []int
		for place := range count + 1 {
			want = append(want, place)
		}
		falls(t, r, now, want...)
		holds(t, r, list[count+1:]...)
		falls(t, r, now)
		holds(t, r, list[count+1:]...)
	}
	r := made(t, list...)
	for place, now := range edges() {
		if now > math.MinInt {
			falls(t, r, now-1)
		}
		falls(t, r, now, place)
	}
	holds(t, r)
}

func TestWhatWasDueIsntAnyMore(t *testing.T) { // P7.1, P7.2
	r := made(t, [2]int{5, 1}, [2]int{6, 2}, [2]int{7, 3})
	falls(t, r, 6, 1, 2)
	drops(t, r, 1, false)
	drops(t, r, 2, false)
	holds(t, r, [2]int{7, 3})
	// Set again, it is due again: also at a time that has gone by.
	sets(t, r, [2]int{2, 1}, [2]int{7, 2})
	holds(t, r, [2]int{2, 1}, [2]int{7, 3}, [2]int{7, 2})
	falls(t, r, 6, 1)
	falls(t, r, 7, 3, 2)
	holds(t, r)
}

func TestDuesListIsNewMemory(t *testing.T) { // P7.1
	r := made(t, full()...)
	first := r.Due(20)
	for place := range first[:cap(first)] {
		first[:cap(first)][place] = -1
	}
	holds(t, r, full()[4:]...)
	second := r.Due(40)
	if !slices.Equal(second, []int{104, 105, 106, 107}) {
		t.Fatalf("%v", second)
	}
	sets(t, r, [2]int{1, 1}, [2]int{2, 2}, [2]int{3, 3}, [2]int{4, 4})
	falls(t, r, 80, 1, 2, 3, 4, 108, 109, 110, 111, 112, 113, 114, 115)
	if !slices.Equal(second, []int{104, 105, 106, 107}) || !slices.Equal(first, []int{-1, -1, -1, -1}) {
		t.Fatalf("%v, %v", first, second)
	}
}

func TestAllEndedEarly(t *testing.T) { // P7.1
	r := made(t, full()...)
	for count := range 17 {
		var list [][2]int
		for at, what := range r.All() {
			if len(list) == count {
				break
			}
			list = append(list, [2]int{at, what})
		}
		if !slices.Equal(list, full()[:count]) {
			t.Fatalf("%d: %v", count, list)
		}
		holds(t, r, full()...)
	}
	// Nothing is told any more to somebody who said that it is enough.
	for count := 1; count <= 16; count++ {
		calls := 0
		r.All()(func(int, int) bool {
			calls++
			return calls < count
		})
		if calls != count {
			t.Fatalf("%d calls, not %d", calls, count)
		}
	}
}

func TestAllGoneOverTwice(t *testing.T) { // P7.1
	r := made(t, full()...)
	all := r.All()
	for at, what := range all {
		if at > 30 || what < 100 {
			break
		}
	}
	for range 3 {
		var list [][2]int
		for at, what := range all {
			list = append(list, [2]int{at, what})
		}
		if !slices.Equal(list, full()) {
			t.Fatalf("%v", list)
		}
	}
	// Gone over within itself.
	for at, what := range all {
		count := 0
		for range all {
			count++
		}
		if count != 16 || at < 10 || what < 100 {
			t.Fatalf("%d at %d: %d", what, at, count)
		}
	}
	holds(t, r, full()...)
}

func TestLenBehindEveryCall(t *testing.T) { // P7.1
	r := new(Row)
	length := func(want int) {
		t.Helper()
		if got := r.Len(); got != want {
			t.Fatalf("Len: %d, not %d", got, want)
		}
	}
	length(0)
	for place := range 16 {
		sets(t, r, [2]int{place, place})
		length(place + 1)
		sets(t, r, [2]int{place, place})
		length(place + 1)
	}
	r.Set(0, 16)
	length(16)
	drops(t, r, 16, false)
	length(16)
	drops(t, r, 3, true)
	length(15)
	drops(t, r, 3, false)
	length(15)
	for range r.All() {
		length(15)
		break
	}
	falls(t, r, -1)
	length(15)
	falls(t, r, 4, 0, 1, 2, 4)
	length(11)
	falls(t, r, 4)
	length(11)
	falls(t, r, 100, 5, 6, 7, 8, 9, 10, 11, 12, 13, 14, 15)
	length(0)
}

func TestRowsKnowNothingOfOneAnother(t *testing.T) { // P7.1
	one, other := made(t, full()...), made(t, [2]int{10, 100}, [2]int{5, 1})
	sets(t, other, [2]int{30, 100})
	holds(t, one, full()...)
	drops(t, one, 100, true)
	falls(t, one, 70, 101, 102, 103, 104, 105, 106, 107, 108, 109, 110, 111, 112, 113)
	holds(t, other, [2]int{5, 1}, [2]int{30, 100})
	falls(t, other, 30, 1, 100)
	holds(t, one, [2]int{80, 114}, [2]int{80, 115})
}

// calls makes a call of a row and of its plain list, and fails, unless both answer the same.
func calls(t *testing.T, r *Row, p *plain, which, at, what int) {
	t.Helper()
	switch which {
	case 0:
		drops(t, r, what, p.drop(what))
	case 1:
		falls(t, r, at, p.due(at)...)
	default:
		if got, want := r.Set(at, what), p.set(at, what); got != want {
			t.Fatalf("Set(%d, %d): %d, not %d", at, what, got, want)
		}
	}
	same(t, r, p)
}

func TestCallsInEveryOrder(t *testing.T) { // P7.1
	seed := spread(7)
	// Few times and many, few numbers and many: often full, often empty.
	for _, times := range []int{1, 2, 5, 30, 1000} {
		for _, numbers := range []int{1, 3, 15, 16, 17, 18, 40} {
			for _, kinds := range []int{3, 6, 20} {
				r, p := new(Row), new(plain)
				for range 400 {
					calls(t, r, p, seed.below(kinds), seed.below(times)-times/2, seed.below(numbers)-numbers/2)
				}
			}
		}
	}
	// Of the edges alone.
	r, p := new(Row), new(plain)
	for range 5000 {
		calls(t, r, p, seed.below(12), edges()[seed.below(16)], edges()[seed.below(16)]+seed.below(2))
	}
}

func TestEveryShortRowOfCalls(t *testing.T) { // P7.1
	// Each call is one of Set of two numbers at two times, Drop of each, and Due of each time.
	for row := range 8 * 8 * 8 * 8 * 8 {
		r, p := new(Row), new(plain)
		for range 5 {
			call := row % 8
			row /= 8
			switch {
			case call < 4:
				calls(t, r, p, 2, call/2, call%2)
			default:
				calls(t, r, p, call/2-2, call%2, call%2)
			}
		}
	}
}

func TestWhatWasSetIsDueOnceAndNotSooner(t *testing.T) { // P7.2
	seed := spread(27)
	for range 50 {
		r, next, now := new(Row), 0, 0
		when, came := map[int]int{}, map[int]int{}
		for now < 2000 {
			for range seed.below(4) {
				at := now - 5 + seed.below(60)
				if r.Set(at, next) == api.OK {
					when[next] = at
				}
				next++
			}
			for _, what := range r.Due(now) {
				at, was := when[what]
				if !was || at > now || came[what] != 0 {
					t.Fatalf("%d, set at %d, is due at %d (%d times ahead)", what, at, now, came[what])
				}
				came[what]++
			}
			// All that was to be by now has come.
			for what, at := range when {
				if at <= now && came[what] != 1 {
					t.Fatalf("%d, set at %d, isn't due at %d", what, at, now)
				}
			}
			now += seed.below(20)
		}
		if len(when) < 100 {
			t.Fatalf("%d set alone", len(when))
		}
	}
}

func TestWhatIsSetAnewIsDueAtTheNewTimeAlone(t *testing.T) { // P7.2
	for first := range 12 {
		for second := range 12 {
			r := made(t, [2]int{first, 1}, [2]int{6, 2}, [2]int{second, 1})
			for now := range 14 {
				var want []int
				switch {
				case now == second && now == 6:
					want = []int{2, 1}
				case now == second:
					want = []int{1}
				case now == 6:
					want = []int{2}
				}
				falls(t, r, now, want...)
			}
			holds(t, r)
		}
	}
}
