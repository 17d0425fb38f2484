package table

import (
	"math"
	"slices"
	"testing"

	"angelus/api"
)

// told is what a table's All goes over.
func told(r *Table) []Entry {
	var list []Entry
	for e := range r.All() {
		list = append(list, e)
	}
	return list
}

// most is the greatest Hops of a list.
func most(list []Entry) int {
	hops := 0
	for _, e := range list {
		if e.Hops > hops {
			hops = e.Hops
		}
	}
	return hops
}

// rises fails, unless a table has no more entries than may be, all of which can be, and their Locals rise.
func rises(t *testing.T, r *Table) {
	t.Helper()
	list := told(r)
	if len(list) > 8 || r.Len() > 8 || len(r.List()) > 8 {
		t.Fatalf("%d, %d, %d entries", len(list), r.Len(), len(r.List()))
	}
	for place, e := range list {
		if !can(e) || !e.Good() {
			t.Fatalf("%v can't be", e)
		}
		if place > 0 && list[place-1].Local >= e.Local {
			t.Fatalf("%v don't rise", list)
		}
	}
}

// holds fails, unless all calls that only ask answer what a table of that list does.
func holds(t *testing.T, r *Table, want ...Entry) {
	t.Helper()
	if got := told(r); !slices.Equal(got, want) {
		t.Fatalf("All: %v, not %v", got, want)
	}
	if got := r.List(); !slices.Equal(got, want) {
		t.Fatalf("List: %v, not %v", got, want)
	}
	if got := r.Len(); got != len(want) {
		t.Fatalf("Len: %d, not %d", got, len(want))
	}
	if got, want := r.Hops(), most(want); got != want {
		t.Fatalf("Hops: %d, not %d", got, want)
	}
	var newest Entry
	if len(want) > 0 {
		newest = want[len(want)-1]
	}
	if got, ok := r.Last(); got != newest || ok != (len(want) > 0) {
		t.Fatalf("Last: %v, %v, not %v", got, ok, newest)
	}
	rises(t, r)
}

// adds fails, unless all of them are added.
func adds(t *testing.T, r *Table, list ...Entry) {
	t.Helper()
	for _, e := range list {
		if code := r.Add(e); code != api.OK {
			t.Fatalf("Add(%v): %d", e, code)
		}
	}
}

// refuses fails, unless each of them is refused with that error, and the table is as it was.
func refuses(t *testing.T, r *Table, want api.Errno, list ...Entry) {
	t.Helper()
	before := told(r)
	for _, e := range list {
		if code := r.Add(e); code != want {
			t.Fatalf("Add(%v) to %v: %d, not %d", e, before, code, want)
		}
		holds(t, r, before...)
	}
}

// row is so many entries, whose Locals rise from one on by 10, none like another.
func row(first, count int) []Entry {
	list := []Entry{}
	for place := range count {
		list = append(list, Entry{Local: first + 10*place, Offset: 7 - 3*place, Hops: 1 + (first+5*place)%63})
	}
	return list
}

// with is a new table of those entries.
func with(t *testing.T, list ...Entry) *Table {
	t.Helper()
	r := new(Table)
	adds(t, r, list...)
	return r
}

// can is Good, told apart from it: whether each number stands in what may be.
func can(e Entry) bool {
	const top = 1125899906842624
	local := 0 <= e.Local && e.Local <= top
	offset := -top <= e.Offset && e.Offset <= top
	return local && offset && 0 < e.Hops && e.Hops < 64
}

// edges is numbers around all bounds, and at the ends of the types.
func edges() []int {
	list := []int{math.MinInt, math.MinInt + 1, math.MaxInt - 1, math.MaxInt, math.MinInt + 63, math.MinInt + 64}
	for _, middle := range []int{0, 63, 64, 1 << 31, 1 << 32, 1 << 33, 1 << 49, 1 << 50, 1 << 51, 1 << 62, 1<<32 + 63, 1<<50 + 63} {
		for step := -2; step <= 2; step++ {
			list = append(list, middle+step, -middle+step)
		}
	}
	return list
}

// never is entries that can't be, each with one number, or more, beyond its bounds, of those Locals.
func never(locals ...int) []Entry {
	list := []Entry{}
	for _, local := range locals {
		for _, hops := range []int{math.MinInt, -64, -63, -1, 0, 64, 65, 1<<32 + 1, math.MaxInt} {
			list = append(list, Entry{Local: local, Hops: hops}, Entry{Local: local, Offset: -1 << 50, Hops: hops})
		}
		for _, offset := range []int{math.MinInt, math.MinInt + 1, -1<<50 - 1, 1<<50 + 1, 1 << 51, math.MaxInt} {
			list = append(list, Entry{Local: local, Offset: offset, Hops: 1}, Entry{Local: local, Offset: offset, Hops: 63})
			list = append(list, Entry{Local: local, Offset: offset})
		}
	}
	for _, local := range []int{math.MinInt, math.MinInt + 1, -1 << 50, -1 << 32, -2, -1, 1<<50 + 1, 1<<50 + 2, 1 << 51, math.MaxInt - 1, math.MaxInt} {
		list = append(list, Entry{Local: local, Hops: 1}, Entry{Local: local, Offset: 1 << 50, Hops: 63}, Entry{Local: local, Offset: math.MaxInt, Hops: 64})
	}
	return list
}

// spread is a row of numbers without a rule, the same in each run.
type spread uint32

// below answers the next one, from 0 on.
func (s *spread) below(n int) int {
	*s = *s*1664525 + 1013904223
	return int(*s>>8) % n
}

func TestANilTable(t *testing.T) { // P12.1
	var none *Table
	list := append(row(0, 3), never(0, 5)...)
	for _, e := range append(list, Entry{}) {
		if code := none.Add(e); code != api.ErrNil {
			t.Fatalf("Add(%v): %d", e, code)
		}
		holds(t, none)
		none.Clear()
		holds(t, none)
	}
	all := none.All()
	if all == nil {
		t.Fatal("All: nil")
	}
	for range 2 {
		all(func(e Entry) bool {
			t.Fatalf("%v", e)
			return true
		})
	}
}

func TestGoodAtTheBounds(t *testing.T) { // P12.1
	for _, c := range []struct {
		e    Entry
		want bool
	}{
		{Entry{}, false},
		{Entry{0, 0, 1}, true},
		{Entry{-1, 0, 1}, false},
		{Entry{1, 0, 1}, true},
		{Entry{1<<50 - 1, 0, 1}, true},
		{Entry{1 << 50, 0, 1}, true},
		{Entry{1<<50 + 1, 0, 1}, false},
		{Entry{math.MinInt, 0, 1}, false},
		{Entry{math.MaxInt, 0, 1}, false},
		{Entry{0, -1 << 50, 1}, true},
		{Entry{0, -1<<50 - 1, 1}, false},
		{Entry{0, -1<<50 + 1, 1}, true},
		{Entry{0, -1, 1}, true},
		{Entry{0, 1, 1}, true},
		{Entry{0, 1<<50 - 1, 1}, true},
		{Entry{0, 1 << 50, 1}, true},
		{Entry{0, 1<<50 + 1, 1}, false},
		{Entry{0, math.MinInt, 1}, false},
		{Entry{0, math.MinInt + 1, 1}, false},
		{Entry{0, math.MaxInt, 1}, false},
		{Entry{0, 0, 0}, false},
		{Entry{0, 0, -1}, false},
		{Entry{0, 0, 2}, true},
		{Entry{0, 0, 62}, true},
		{Entry{0, 0, 63}, true},
		{Entry{0, 0, 64}, false},
		{Entry{0, 0, math.MinInt}, false},
		{Entry{0, 0, math.MaxInt}, false},
		{Entry{1 << 50, 1 << 50, 63}, true},
		{Entry{1 << 50, -1 << 50, 63}, true},
		{Entry{1<<50 + 1, 1<<50 + 1, 64}, false},
		{Entry{-1, -1<<50 - 1, 0}, false},
	} {
		if got := c.e.Good(); got != c.want {
			t.Errorf("%v: %v", c.e, got)
		}
	}
}

func TestGoodOfAllEdges(t *testing.T) { // P12.1
	numbers := edges()
	for _, local := range numbers {
		for _, offset := range numbers {
			for _, hops := range numbers {
				e := Entry{local, offset, hops}
				if got := e.Good(); got != can(e) {
					t.Fatalf("%v: %v", e, got)
				}
			}
		}
	}
}

func TestGoodOfAllHops(t *testing.T) { // P12.1
	for hops := -300; hops <= 300; hops++ {
		e := Entry{Local: 3, Offset: -4, Hops: hops}
		if got := e.Good(); got != (hops > 0 && hops < 64) {
			t.Fatalf("%v: %v", e, got)
		}
	}
}

func TestTheChaptersExample(t *testing.T) { // P12.1
	r := new(Table)
	adds(t, r, Entry{Local: 5, Hops: 1})
	refuses(t, r, api.ErrOrder, Entry{Local: 5, Hops: 1})
	holds(t, r, Entry{Local: 5, Hops: 1})
}

func TestAnEmptyTable(t *testing.T) { // P12.1
	var r Table
	for range 3 {
		holds(t, &r)
	}
	holds(t, new(Table))
	holds(t, &Table{})
}

func TestAddToAnEmptyTable(t *testing.T) { // P12.1
	numbers := edges()
	for _, local := range numbers {
		for _, offset := range numbers {
			e := Entry{local, offset, 63}
			r := new(Table)
			if !can(e) {
				refuses(t, r, api.ErrArg, e)
				continue
			}
			adds(t, r, e)
			holds(t, r, e)
		}
	}
	for hops := -2; hops < 70; hops++ {
		e := Entry{Hops: hops}
		r := new(Table)
		if !can(e) {
			refuses(t, r, api.ErrArg, e)
			continue
		}
		adds(t, r, e)
		holds(t, r, e)
	}
}

func TestAddOfTheSameLesserAndGreaterLocals(t *testing.T) { // P12.1, P12.2
	for _, first := range []int{0, 1, 2, 5, 1<<31 - 1, 1 << 31, 1<<32 - 1, 1 << 32, 1 << 49, 1<<50 - 2, 1<<50 - 1, 1 << 50} {
		for _, second := range []int{0, 1, 2, 4, 5, 6, 1<<31 - 1, 1 << 31, 1<<32 - 1, 1 << 32, 1<<32 + 5, 1 << 49, 1<<50 - 2, 1<<50 - 1, 1 << 50} {
			old, e := Entry{first, 3, 4}, Entry{second, -5, 6}
			r := with(t, old)
			if second <= first {
				refuses(t, r, api.ErrOrder, e, Entry{second, 3, 4}, Entry{second, -1 << 50, 63})
				continue
			}
			adds(t, r, e)
			holds(t, r, old, e)
		}
	}
}

func TestAddIsHeldAgainstTheNewestAlone(t *testing.T) { // P12.1, P12.2
	for count := 1; count <= 12; count++ {
		list := row(100, count)
		kept := list[max(0, count-8):]
		newest := list[count-1].Local
		r := with(t, list...)
		for local := range newest + 1 {
			refuses(t, r, api.ErrOrder, Entry{local, 1, 1})
		}
		holds(t, r, kept...)
		next := Entry{newest + 1, 0, 1}
		adds(t, r, next)
		list = append(list, next)
		holds(t, r, list[max(0, count-7):]...)
	}
}

func TestAddOfEntriesThatCantBe(t *testing.T) { // P12.1, P12.2
	for count := range 11 {
		list := row(50, count)
		r := with(t, list...)
		// Locals that are no greater, either, and such that are: ErrArg is named first.
		refuses(t, r, api.ErrArg, never(0, 49, 50, 50+10*count-10, 50+10*count-9, 1<<50)...)
		holds(t, r, list[max(0, count-8):]...)
		// What was refused counts for nothing: the next one is added.
		adds(t, r, Entry{50 + 10*count - 9, 1, 1})
	}
}

func TestAddBehindTheGreatestLocal(t *testing.T) { // P12.1, P12.2
	r := with(t, Entry{1<<50 - 1, 0, 1}, Entry{1 << 50, 0, 2})
	refuses(t, r, api.ErrOrder, Entry{1 << 50, 0, 3}, Entry{0, 0, 3}, Entry{1<<50 - 1, 0, 3})
	refuses(t, r, api.ErrArg, Entry{1<<50 + 1, 0, 3}, Entry{math.MaxInt, 0, 3})
	holds(t, r, Entry{1<<50 - 1, 0, 1}, Entry{1 << 50, 0, 2})
}

func TestTheEldestGoes(t *testing.T) { // P12.1, P12.2
	list := row(3, 100)
	r := new(Table)
	for count, e := range list {
		holds(t, r, list[max(0, count-8):count]...)
		adds(t, r, e)
		if count >= 8 && slices.Contains(r.List(), list[count-8]) {
			t.Fatalf("%v hasn't gone", list[count-8])
		}
	}
	holds(t, r, list[92:]...)
}

func TestLenLastAndHopsOfSoMany(t *testing.T) { // P12.1
	for _, count := range []int{0, 1, 7, 8, 9, 10, 16, 17, 64, 1000} {
		list := row(0, count)
		r := with(t, list...)
		if got := r.Len(); got != min(count, 8) {
			t.Fatalf("Len behind %d: %d", count, got)
		}
		if got, ok := r.Last(); ok != (count > 0) || ok && got != list[count-1] {
			t.Fatalf("Last behind %d: %v, %v", count, got, ok)
		}
		if got := r.Hops(); got != most(list[max(0, count-8):]) {
			t.Fatalf("Hops behind %d: %d", count, got)
		}
	}
}

func TestEntriesAreToldAsTheyWereAdded(t *testing.T) { // P12.1
	list := []Entry{
		{0, -1 << 50, 63}, {1, 1 << 50, 1}, {2, 0, 2}, {1 << 32, 1<<32 + 1, 62},
		{1<<50 - 3, -1, 5}, {1<<50 - 2, 1, 5}, {1<<50 - 1, -1<<32 - 1, 5}, {1 << 50, 1<<50 - 1, 5},
	}
	holds(t, with(t, list...), list...)
	for count := range list {
		holds(t, with(t, list[:count]...), list[:count]...)
	}
}

func TestAllIsLeftAtAnyTime(t *testing.T) { // P12.1
	for _, count := range []int{0, 1, 2, 7, 8, 9, 20} {
		list := row(0, count)
		kept := list[max(0, count-8):]
		r := with(t, list...)
		all := r.All()
		for left := range len(kept) + 1 {
			var got []Entry
			for e := range all {
				if len(got) == left {
					break
				}
				got = append(got, e)
			}
			if !slices.Equal(got, kept[:left]) {
				t.Fatalf("%v, not %v", got, kept[:left])
			}
			holds(t, r, kept...)
		}
	}
}

func TestAllAsksNoMoreOnceItIsLeft(t *testing.T) { // P12.1
	all := with(t, row(0, 8)...).All()
	for left := 1; left <= 8; left++ {
		calls := 0
		all(func(Entry) bool {
			calls++
			return calls < left
		})
		if calls != left {
			t.Fatalf("%d, not %d", calls, left)
		}
	}
}

func TestAllIsGoneOverTwice(t *testing.T) { // P12.1
	for _, count := range []int{0, 1, 8, 9} {
		list := row(4, count)
		all := with(t, list...).All()
		for range 3 {
			if got := slices.Collect(all); !slices.Equal(got, list[max(0, count-8):]) {
				t.Fatalf("%v", got)
			}
		}
	}
	// One within the other, too.
	list := row(4, 8)
	all := with(t, list...).All()
	var outer []Entry
	for e := range all {
		outer = append(outer, e)
		if got := slices.Collect(all); !slices.Equal(got, list) {
			t.Fatalf("%v", got)
		}
	}
	if !slices.Equal(outer, list) {
		t.Fatalf("%v", outer)
	}
}

func TestAllTellsWhatIsThereWhenItIsGoneOver(t *testing.T) { // P12.1
	r := new(Table)
	all := r.All()
	for count, e := range row(0, 20) {
		adds(t, r, e)
		if got := slices.Collect(all); !slices.Equal(got, row(0, count+1)[max(0, count-7):]) {
			t.Fatalf("%v behind %d", got, count+1)
		}
	}
	r.Clear()
	if got := slices.Collect(all); len(got) != 0 {
		t.Fatalf("%v", got)
	}
}

func TestListIsNewMemory(t *testing.T) { // P12.1
	for _, count := range []int{1, 2, 7, 8, 9, 20} {
		kept := row(0, count)[max(0, count-8):]
		r := with(t, row(0, count)...)
		first, second := r.List(), r.List()
		for place := range first {
			first[place] = Entry{-1, -1, -1}
		}
		// Nor is what is written behind a list's end seen anywhere.
		_ = append(first, Entry{-2, -2, -2}, Entry{-3, -3, -3})
		holds(t, r, kept...)
		if !slices.Equal(second, kept) {
			t.Fatalf("%v, not %v", second, kept)
		}
		if !slices.Equal(first, slices.Repeat([]Entry{{-1, -1, -1}}, len(kept))) {
			t.Fatalf("%v", first)
		}
	}
}

func TestAListStaysAsItWas(t *testing.T) { // P12.1
	r := new(Table)
	var lists, wants [][]Entry
	for _, e := range row(0, 30) {
		adds(t, r, e)
		lists = append(lists, r.List())
		wants = append(wants, told(r))
	}
	r.Clear()
	adds(t, r, row(1000, 8)...)
	for place, list := range lists {
		if !slices.Equal(list, wants[place]) {
			t.Fatalf("%v, not %v", list, wants[place])
		}
	}
}

func TestHopsWhereverTheGreatestStands(t *testing.T) { // P12.1
	for place := range 8 {
		list := row(0, 8)
		for i := range list {
			list[i].Hops = 1 + i%3
		}
		list[place].Hops = 63
		r := with(t, list...)
		if got := r.Hops(); got != 63 {
			t.Fatalf("the greatest at %d: %d", place, got)
		}
		// It counts till it goes, and no longer.
		for next := range 10 {
			e := Entry{1000 + next, 0, 2}
			adds(t, r, e)
			list = append(list, e)
			want := 2
			if next < place {
				want = 63
			} else if next < 8 {
				want = most(list[next+1:])
			}
			if got := r.Hops(); got != want {
				t.Fatalf("the greatest at %d, %d behind it: %d, not %d", place, next+1, got, want)
			}
		}
	}
}

func TestHopsOfOneEntryAndOfEqualOnes(t *testing.T) { // P12.1
	for hops := 1; hops <= 63; hops++ {
		r := new(Table)
		for local := range 12 {
			adds(t, r, Entry{local, 1 << 50, hops})
			if got := r.Hops(); got != hops {
				t.Fatalf("%d, not %d", got, hops)
			}
		}
	}
}

func TestClear(t *testing.T) { // P12.1, P12.2
	for _, count := range []int{0, 1, 7, 8, 9, 30} {
		r := with(t, row(500, count)...)
		for range 2 {
			r.Clear()
			holds(t, r)
		}
		// Locals that are lesser, the same, and greater, begin anew.
		for _, first := range []int{0, 499, 500, 500 + 10*count, 1<<50 - 200} {
			list := row(first, 12)
			for place, e := range list {
				adds(t, r, e)
				holds(t, r, list[max(0, place-7):place+1]...)
			}
			r.Clear()
			holds(t, r)
		}
	}
}

func TestClearBehindARefusal(t *testing.T) { // P12.1
	r := with(t, row(10, 8)...)
	refuses(t, r, api.ErrOrder, Entry{10, 0, 1})
	refuses(t, r, api.ErrArg, Entry{1000, 0, 64})
	r.Clear()
	adds(t, r, Entry{0, 0, 1})
	holds(t, r, Entry{0, 0, 1})
}

func TestTablesPlayNoPartInOneAnother(t *testing.T) { // P12.1
	one, two := new(Table), new(Table)
	first, second := row(0, 20), row(7, 20)
	for place := range first {
		adds(t, one, first[place])
		holds(t, two, second[max(0, place-8):place]...)
		adds(t, two, second[place])
		holds(t, one, first[max(0, place-7):place+1]...)
	}
	one.Clear()
	holds(t, two, second[12:]...)
	refuses(t, two, api.ErrOrder, Entry{0, 0, 1})
	adds(t, one, Entry{0, 0, 1})
	holds(t, one, Entry{0, 0, 1})
	holds(t, two, second[12:]...)
}

// plain is a table as a list, of which all is kept.
type plain struct {
	items []Entry
}

// add answers what Add does.
func (p *plain) add(e Entry) api.Errno {
	switch {
	case !can(e):
		return api.ErrArg
	case len(p.items) > 0 && p.items[len(p.items)-1].Local >= e.Local:
		return api.ErrOrder
	}
	p.items = append(p.items, e)
	return api.OK
}

// kept is the last eight.
func (p *plain) kept() []Entry {
	return p.items[max(0, len(p.items)-8):]
}

// calls adds one to both, and holds them against each other.
func calls(t *testing.T, r *Table, p *plain, e Entry) {
	t.Helper()
	if got, want := r.Add(e), p.add(e); got != want {
		t.Fatalf("Add(%v) to %v: %d, not %d", e, p.kept(), got, want)
	}
	holds(t, r, p.kept()...)
}

func TestCallsInEveryOrder(t *testing.T) { // P12.1, P12.2
	seed := spread(12)
	for _, far := range []int{2, 5, 40, 1 << 20} {
		r, p := new(Table), new(plain)
		for range 20000 {
			if seed.below(60) == 0 {
				r.Clear()
				p.items = nil
				holds(t, r)
				continue
			}
			local := seed.below(far)
			if last, ok := r.Last(); ok {
				// About the newest one, a little below it and a little above it.
				local += last.Local - far/4
			}
			calls(t, r, p, Entry{local, seed.below(1<<20) - 1<<19, seed.below(66)})
		}
	}
}

func TestEveryShortRowOfCalls(t *testing.T) { // P12.1, P12.2
	const long = 7
	// Each call is a Clear, or an Add, of a Local from 0 to 3, or of an entry that can't be.
	for which := range 279936 {
		r, p := new(Table), new(plain)
		for place := range long {
			switch call := which % 6; call {
			case 0:
				r.Clear()
				p.items = nil
			case 1:
				r.Add(Entry{place, 0, 0})
			default:
				e := Entry{call - 2, place, 1 + place}
				if got, want := r.Add(e), p.add(e); got != want {
					t.Fatalf("Add(%v) to %v: %d, not %d", e, p.kept(), got, want)
				}
			}
			which /= 6
		}
		holds(t, r, p.kept()...)
	}
}

func TestNeverMoreThanEightWhoseLocalsRise(t *testing.T) { // P12.2
	seed := spread(50)
	for _, far := range []int{3, 9, 100, 1 << 20} {
		for turn := range 200 {
			r := new(Table)
			taken := 0
			for range 60 {
				e := Entry{seed.below(far) * (1 + turn), seed.below(9) - 4, 1 + seed.below(63)}
				if r.Add(e) == api.OK {
					taken++
				}
				if got := r.Len(); got != min(taken, 8) {
					t.Fatalf("%d, behind %d", got, taken)
				}
				rises(t, r)
			}
		}
	}
}
