package ring

import (
	"math"
	"slices"
	"strconv"
	"testing"

	"angelus/api"
)

// made is a new row with room for so many.
func made[T any](t *testing.T, room int) *Ring[T] {
	t.Helper()
	r, code := New[T](room)
	if r == nil || code != api.OK {
		t.Fatalf("New(%d): %v, %d", room, r, code)
	}
	return r
}

// told is what a row's All goes over.
func told[T any](r *Ring[T]) []T {
	var list []T
	for x := range r.All() {
		list = append(list, x)
	}
	return list
}

// holds fails, unless that is in a row, in that order.
func holds[T comparable](t *testing.T, r *Ring[T], want ...T) {
	t.Helper()
	if got := told(r); !slices.Equal(got, want) {
		t.Fatalf("%v, not %v", got, want)
	}
	if got := r.Len(); got != len(want) {
		t.Fatalf("Len: %d, not %d", got, len(want))
	}
}

// pushes fails, unless there is room for all of them.
func pushes[T any](t *testing.T, r *Ring[T], list ...T) {
	t.Helper()
	for _, x := range list {
		before := r.Len()
		if code := r.Push(x); code != api.OK {
			t.Fatalf("Push(%v): %d", x, code)
		}
		if got := r.Len(); got != before+1 {
			t.Fatalf("Len behind Push: %d, not %d", got, before+1)
		}
	}
}

// full fails, unless a row has no room for any of them, and is as it was.
func full[T comparable](t *testing.T, r *Ring[T], list ...T) {
	t.Helper()
	want := told(r)
	for _, x := range list {
		if code := r.Push(x); code != api.ErrFull {
			t.Fatalf("Push(%v): %d, not ErrFull", x, code)
		}
		holds(t, r, want...)
	}
}

// pops fails, unless they are popped, in that order.
func pops[T comparable](t *testing.T, r *Ring[T], want ...T) {
	t.Helper()
	for _, x := range want {
		before := r.Len()
		if got, ok := r.Pop(); got != x || !ok {
			t.Fatalf("Pop: %v, %v, not %v", got, ok, x)
		}
		if got := r.Len(); got != before-1 {
			t.Fatalf("Len behind Pop: %d, not %d", got, before-1)
		}
	}
}

// bare fails, unless a row is empty, and Pop tells so, as often as it is asked.
func bare[T comparable](t *testing.T, r *Ring[T]) {
	t.Helper()
	for range 3 {
		holds(t, r)
		var zero T
		if got, ok := r.Pop(); got != zero || ok {
			t.Fatalf("Pop: %v, %v", got, ok)
		}
	}
	holds(t, r)
}

// from is so many numbers, from one on.
func from(first, count int) []int {
	list := []int{}
	for place := range count {
		list = append(list, first+place)
	}
	return list
}

// turned is a row of numbers from 1 on, so many, behind so many that were popped.
func turned(t *testing.T, room, gone, count int) *Ring[int] {
	t.Helper()
	r := made[int](t, room)
	for place := range gone {
		pushes(t, r, -1-place)
		pops(t, r, -1-place)
	}
	pushes(t, r, from(1, count)...)
	return r
}

// spread is a row of numbers without a rule, the same in each run.
type spread uint32

// below answers the next one, from 0 on.
func (s *spread) below(n int) int {
	*s = *s*1664525 + 1013904223
	return int(*s>>8) % n
}

// thing is a struct to be pushed.
type thing struct {
	number int
	text   string
	pair   [2]int
}

func TestANilRow(t *testing.T) { // P10.1
	nilRow(t, 0, 1, math.MinInt, math.MaxInt)
	nilRow(t, "", "a")
	nilRow(t, thing{}, thing{1, "a", [2]int{2, 3}})
}

// nilRow asks a nil row of a type in every call.
func nilRow[T comparable](t *testing.T, list ...T) {
	t.Helper()
	var r *Ring[T]
	for _, x := range list {
		if code := r.Push(x); code != api.ErrNil {
			t.Fatalf("Push(%v): %d", x, code)
		}
		bare(t, r)
		r.Clear()
		bare(t, r)
	}
	all := r.All()
	if all == nil {
		t.Fatal("All: nil")
	}
	for range 2 {
		all(func(x T) bool {
			t.Fatalf("%v", x)
			return true
		})
	}
}

func TestNewRefuses(t *testing.T) { // P10.1
	rooms := append(from(-300, 301), from(65, 1000)...)
	rooms = append(rooms, math.MinInt, math.MinInt+1, math.MinInt+64, -1<<32, -1<<32+1, math.MinInt32, math.MaxInt32, 1<<32, 1<<32+1, 1<<32+64, math.MaxInt-1, math.MaxInt)
	for _, room := range rooms {
		if r, code := New[int](room); r != nil || code != api.ErrArg {
			t.Fatalf("New(%d): %v, %d", room, r, code)
		}
		if r, code := New[string](room); r != nil || code != api.ErrArg {
			t.Fatalf("New(%d) of texts: %v, %d", room, r, code)
		}
		if r, code := New[thing](room); r != nil || code != api.ErrArg {
			t.Fatalf("New(%d) of structs: %v, %d", room, r, code)
		}
	}
}

func TestNewHasRoomForSoMany(t *testing.T) { // P10.1, P10.2
	for room := 1; room <= 64; room++ {
		bare(t, made[int](t, room))
		bare(t, made[string](t, room))
		bare(t, made[thing](t, room))
		r := made[int](t, room)
		for count := range room {
			holds(t, r, from(0, count)...)
			pushes(t, r, count)
		}
		full(t, r, room, 0, -1)
		pops(t, r, from(0, room)...)
		bare(t, r)
	}
}

func TestTheChaptersExample(t *testing.T) { // P10.1
	r := made[string](t, 2)
	pushes(t, r, "a", "b")
	full(t, r, "c")
	pops(t, r, "a")
	pushes(t, r, "c")
	holds(t, r, "b", "c")
	full(t, r, "d")
	pops(t, r, "b", "c")
	bare(t, r)
}

func TestPushToAnEmptyRow(t *testing.T) { // P10.1
	for _, room := range []int{1, 2, 3, 7, 63, 64} {
		// Empty since it is new, and since all were popped, wherever the next one stands.
		for gone := range 2*room + 2 {
			r := turned(t, room, gone, 0)
			bare(t, r)
			pushes(t, r, 5)
			holds(t, r, 5)
			pops(t, r, 5)
			bare(t, r)
		}
	}
}

func TestPushWithOnePlaceLeft(t *testing.T) { // P10.1
	for _, room := range []int{1, 2, 3, 7, 63, 64} {
		for gone := range 2*room + 2 {
			r := turned(t, room, gone, room-1)
			holds(t, r, from(1, room-1)...)
			pushes(t, r, room)
			holds(t, r, from(1, room)...)
			full(t, r, room+1)
		}
	}
}

func TestPushToAFullRow(t *testing.T) { // P10.1, P10.2
	for _, room := range []int{1, 2, 3, 7, 63, 64} {
		for gone := range 2*room + 2 {
			r := turned(t, room, gone, room)
			full(t, r, 0, 1, room, room+1, -1, math.MinInt, math.MaxInt)
			// What was refused is never popped.
			pops(t, r, from(1, room)...)
			bare(t, r)
		}
	}
}

func TestPushBehindAPopOfAFullRow(t *testing.T) { // P10.1, P10.2
	for room := 1; room <= 64; room++ {
		r := turned(t, room, 0, room)
		for next := range 3*room + 1 {
			full(t, r, -1)
			pops(t, r, next+1)
			holds(t, r, from(next+2, room-1)...)
			pushes(t, r, next+1+room)
			holds(t, r, from(next+2, room)...)
		}
	}
}

func TestPopOfOneAndOfAll(t *testing.T) { // P10.1, P10.2
	for _, room := range []int{1, 2, 3, 7, 63, 64} {
		for count := range room + 1 {
			for gone := range room {
				r := turned(t, room, gone, count)
				pops(t, r, from(1, count)...)
				bare(t, r)
				pushes(t, r, 9)
				pops(t, r, 9)
				bare(t, r)
			}
		}
	}
}

func TestPopAnswersAZeroValueOfNone(t *testing.T) { // P10.1
	// Behind things of which no field is zero, so that none of them shines through.
	whole := thing{1, "a", [2]int{2, 3}}
	for _, room := range []int{1, 2, 64} {
		r := made[thing](t, room)
		for range 3*room + 1 {
			pushes(t, r, whole)
			pops(t, r, whole)
			bare(t, r)
		}
		pushes(t, r, slices.Repeat([]thing{whole}, room)...)
		r.Clear()
		bare(t, r)
	}
}

func TestARowGoesRoundItsRoom(t *testing.T) { // P10.1, P10.2
	for _, room := range []int{1, 2, 3, 5, 8, 63, 64} {
		// So many stand in it while it goes round, at least.
		for count := range room {
			r := turned(t, room, 0, count)
			for next := range 5 * room {
				holds(t, r, from(next+1, count)...)
				pushes(t, r, next+1+count)
				holds(t, r, from(next+1, count+1)...)
				pops(t, r, next+1)
			}
			pops(t, r, from(5*room+1, count)...)
			bare(t, r)
		}
	}
}

func TestFilledAndEmptiedAgainAndAgain(t *testing.T) { // P10.1, P10.2
	for _, room := range []int{1, 2, 3, 64} {
		r, next := made[int](t, room), 0
		for range 5 {
			// One more than is popped each time, so that each beginning is another cell.
			pushes(t, r, next)
			pops(t, r, next)
			next++
			pushes(t, r, from(next, room)...)
			full(t, r, -1)
			pops(t, r, from(next, room)...)
			bare(t, r)
			next += room
		}
	}
}

func TestLenBehindEachCall(t *testing.T) { // P10.1
	r := made[int](t, 3)
	length := func(want int) {
		t.Helper()
		if got := r.Len(); got != want {
			t.Fatalf("Len: %d, not %d", got, want)
		}
	}
	length(0)
	r.Pop()
	length(0)
	for place := range 3 {
		r.Push(7)
		length(place + 1)
	}
	r.Push(7)
	length(3)
	for range r.All() {
		length(3)
		break
	}
	length(3)
	r.Pop()
	length(2)
	r.Push(7)
	length(3)
	r.Pop()
	r.Pop()
	length(1)
	r.Pop()
	length(0)
	r.Pop()
	length(0)
	r.Push(7)
	length(1)
	r.Clear()
	length(0)
	r.Clear()
	length(0)
}

// places goes over rows of each room, of each count, and from each first cell on: of the small rooms, and of the greatest.
func places(t *testing.T, each func(r *Ring[int], room int, want []int)) {
	t.Helper()
	for _, room := range []int{1, 2, 3, 4, 64} {
		for gone := range room + 1 {
			for count := range room + 1 {
				if room < 64 || count < 2 || count > 62 || gone < 2 || gone > 62 {
					each(turned(t, room, gone, count), room, from(1, count))
				}
			}
		}
	}
}

func TestAllInEachPlace(t *testing.T) { // P10.1
	places(t, func(r *Ring[int], room int, want []int) {
		holds(t, r, want...)
		// It is gone over again, and nothing is popped by that.
		holds(t, r, want...)
		pops(t, r, want...)
		bare(t, r)
	})
}

func TestAllLeftAtAnyTime(t *testing.T) { // P10.1
	places(t, func(r *Ring[int], room int, want []int) {
		for count := range len(want) {
			var list []int
			for x := range r.All() {
				if len(list) == count {
					break
				}
				list = append(list, x)
			}
			if !slices.Equal(list, want[:count]) {
				t.Fatalf("%d: %v", count, list)
			}
		}
		// Nothing is told any more to somebody who said that it is enough.
		for count := 1; count <= len(want); count++ {
			calls := 0
			r.All()(func(int) bool {
				calls++
				return calls < count
			})
			if calls != count {
				t.Fatalf("%d calls, not %d", calls, count)
			}
		}
		holds(t, r, want...)
	})
}

func TestAllGoneOverTwice(t *testing.T) { // P10.1
	places(t, func(r *Ring[int], room int, want []int) {
		all := r.All()
		for range all {
			break
		}
		for range 3 {
			if list := slices.Collect(all); !slices.Equal(list, want) {
				t.Fatalf("%v, not %v", list, want)
			}
		}
		// Gone over within itself.
		count := 0
		for range all {
			for range all {
				count++
			}
		}
		if count != len(want)*len(want) {
			t.Fatalf("%d", count)
		}
		holds(t, r, want...)
	})
}

func TestAllIsOfTheTimeAtWhichItIsGoneOver(t *testing.T) { // P10.1
	r := made[int](t, 3)
	all := r.All()
	for next := range 12 {
		if list := slices.Collect(all); !slices.Equal(list, told(r)) || len(list) != min(next, 2) {
			t.Fatalf("%v, not %v", list, told(r))
		}
		pushes(t, r, next)
		if r.Len() == 3 {
			pops(t, r, next-2)
		}
	}
	r.Clear()
	if list := slices.Collect(all); len(list) != 0 {
		t.Fatalf("%v", list)
	}
}

func TestAllWhileWhoGoesOverItChangesTheRow(t *testing.T) { // P10.1
	changes := []func(r *Ring[int]){
		func(r *Ring[int]) { r.Pop() },
		func(r *Ring[int]) { r.Push(100) },
		func(r *Ring[int]) { r.Clear() },
		func(r *Ring[int]) { r.Pop(); r.Push(100) },
		func(r *Ring[int]) { r.Clear(); r.Push(100); r.Push(101) },
	}
	for _, change := range changes {
		places(t, func(r *Ring[int], room int, want []int) {
			var list []int
			for x := range r.All() {
				list = append(list, x)
				change(r)
			}
			if !slices.Equal(list, want) {
				t.Fatalf("%v, not %v", list, want)
			}
		})
	}
}

func TestClearInEachPlace(t *testing.T) { // P10.1
	places(t, func(r *Ring[int], room int, want []int) {
		r.Clear()
		bare(t, r)
		r.Clear()
		bare(t, r)
		// It is as a new one: there is room for all, and they go round.
		for next := range 2*room + 1 {
			pushes(t, r, next)
			holds(t, r, next)
			pops(t, r, next)
		}
		pushes(t, r, from(50, room)...)
		full(t, r, 0)
		holds(t, r, from(50, room)...)
		pops(t, r, from(50, room)...)
		bare(t, r)
	})
}

func TestClearIsAsANewRow(t *testing.T) { // P10.1
	seed := spread(10)
	places(t, func(r *Ring[int], room int, want []int) {
		fresh := made[int](t, room)
		r.Clear()
		for next := range 3 * room {
			x := seed.below(5)
			if seed.below(3) > 0 {
				if got, want := r.Push(x), fresh.Push(x); got != want {
					t.Fatalf("%d: Push: %d, not %d", next, got, want)
				}
			} else if want, is := fresh.Pop(); is {
				pops(t, r, want)
			} else {
				bare(t, r)
			}
			holds(t, r, told(fresh)...)
		}
	})
}

func TestNothingIsKeptOfWhatWent(t *testing.T) { // P10.1
	for gone := range 5 {
		r := made[*int](t, 4)
		for range gone {
			r.Push(new(int))
			r.Pop()
		}
		for count := range 5 {
			pushes(t, r, slices.Repeat([]*int{new(int)}, count)...)
			if count%2 == 0 {
				r.Clear()
			}
			for range count {
				r.Pop()
			}
			for place, x := range r.cells {
				if x != nil {
					t.Fatalf("cell %d holds %p", place, x)
				}
			}
		}
	}
}

// kind pushes things of a type, zero values among them, to rows of some rooms, and pops them again.
func kind[T comparable](t *testing.T, things ...T) {
	t.Helper()
	var zero T
	things = append(things, zero, zero)
	for _, room := range []int{1, 2, len(things) - 1, len(things), 64} {
		r := made[T](t, room)
		var want []T
		for next := range 4*len(things) + room {
			x := things[next%len(things)]
			if len(want) == room {
				full(t, r, x, zero)
				pops(t, r, want[0])
				want = want[1:]
			}
			pushes(t, r, x)
			want = append(want, x)
			holds(t, r, want...)
		}
		pops(t, r, want...)
		bare(t, r)
	}
	// Zero values alone count as all others.
	r := made[T](t, 3)
	for range 4 {
		pushes(t, r, zero, zero, zero)
		full(t, r, zero)
		holds(t, r, zero, zero, zero)
		pops(t, r, zero, zero, zero)
		bare(t, r)
		pushes(t, r, zero)
		r.Clear()
		bare(t, r)
	}
}

func TestRowsOfEachType(t *testing.T) { // P10.1, P10.2
	kind(t, 0, 1, -1, math.MinInt, math.MaxInt, 1, 1)
	kind[uint8](t, 0, 1, 255, 255, 7)
	kind(t, "", "a", "ab", "\x00", "a", "ünd", string(make([]byte, 1000)))
	kind(t, thing{}, thing{1, "", [2]int{}}, thing{0, "a", [2]int{}}, thing{0, "", [2]int{0, 1}}, thing{1, "a", [2]int{2, 3}})
	kind(t, [3]int{1, 2, 3}, [3]int{}, [3]int{0, 0, 4})
	kind(t, new(int), nil, new(int))
	kind[any](t, 1, "a", nil, thing{}, 1.5)
	kind(t, true, false, true)
	kind(t, 0.5, -0.5, math.Inf(1))
	kind(t, struct{}{}, struct{}{})
}

func TestRowsOfWhatCannotBeCompared(t *testing.T) { // P10.1
	r := made[[]int](t, 2)
	for range 5 {
		pushes(t, r, []int{1, 2}, nil)
		if code := r.Push([]int{3}); code != api.ErrFull {
			t.Fatalf("Push: %d", code)
		}
		if list := told(r); len(list) != 2 || !slices.Equal(list[0], []int{1, 2}) || list[1] != nil {
			t.Fatalf("%v", list)
		}
		if x, ok := r.Pop(); !slices.Equal(x, []int{1, 2}) || !ok {
			t.Fatalf("Pop: %v, %v", x, ok)
		}
		if x, ok := r.Pop(); x != nil || !ok {
			t.Fatalf("Pop: %v, %v", x, ok)
		}
		if x, ok := r.Pop(); x != nil || ok {
			t.Fatalf("Pop: %v, %v", x, ok)
		}
	}
	calls := made[func() int](t, 3)
	pushes(t, calls, func() int { return 7 }, nil)
	if f, ok := calls.Pop(); !ok || f() != 7 {
		t.Fatal("Pop of a function")
	}
	if f, ok := calls.Pop(); !ok || f != nil {
		t.Fatal("Pop of a nil function")
	}
}

func TestWhatWasPushedStaysAsItWas(t *testing.T) { // P10.1
	r, x := made[[2]int](t, 2), [2]int{1, 2}
	pushes(t, r, x)
	x[0] = 9
	pushes(t, r, x)
	x[1] = 9
	holds(t, r, [2]int{1, 2}, [2]int{9, 2})
	for y := range r.All() {
		y[0] = 5
		x = y
	}
	holds(t, r, [2]int{1, 2}, [2]int{9, 2})
	list := told(r)
	list[0], list[1] = x, x
	pops(t, r, [2]int{1, 2}, [2]int{9, 2})
}

func TestRowsKnowNothingOfOneAnother(t *testing.T) { // P10.1
	one, other, more := made[int](t, 2), made[int](t, 2), made[int](t, 3)
	pushes(t, one, 1, 2)
	bare(t, other)
	bare(t, more)
	pushes(t, other, 3)
	pushes(t, more, 4, 5, 6)
	holds(t, one, 1, 2)
	full(t, one, 7)
	pops(t, one, 1)
	holds(t, other, 3)
	holds(t, more, 4, 5, 6)
	other.Clear()
	bare(t, other)
	holds(t, one, 2)
	holds(t, more, 4, 5, 6)
	pushes(t, other, 8, 9)
	pops(t, more, 4, 5)
	one.Clear()
	holds(t, other, 8, 9)
	holds(t, more, 6)
	bare(t, one)
	// While one is gone over, another one may be changed, and gone over.
	var list []int
	for x := range other.All() {
		pushes(t, one, x)
		list = append(list, told(more)...)
		list = append(list, told(one)...)
	}
	if !slices.Equal(list, []int{6, 8, 6, 8, 9}) {
		t.Fatalf("%v", list)
	}
	holds(t, other, 8, 9)
}

// plain is what a row is to be, as the chapter tells it: a list, and for how many there is room.
type plain[T comparable] struct {
	room  int
	items []T
}

// push is what Push is to do, and to answer.
func (p *plain[T]) push(x T) api.Errno {
	if len(p.items) == p.room {
		return 6
	}
	p.items = append(slices.Clone(p.items), x)
	return 0
}

// pop is what Pop is to do, and to answer.
func (p *plain[T]) pop() (x T, ok bool) {
	if len(p.items) > 0 {
		x, ok = p.items[0], true
		p.items = slices.Clone(p.items[1:])
	}
	return x, ok
}

// calls makes a call of a row and of its plain list, and fails, unless both answer the same, and are the same behind it.
func calls[T comparable](t *testing.T, r *Ring[T], p *plain[T], which int, x T) {
	t.Helper()
	switch which {
	case 0:
		r.Clear()
		p.items = nil
	case 1:
		got, ok := r.Pop()
		if want, is := p.pop(); got != want || ok != is {
			t.Fatalf("Pop: %v, %v, not %v, %v", got, ok, want, is)
		}
	default:
		if got, want := r.Push(x), p.push(x); got != want {
			t.Fatalf("Push(%v): %d, not %d", x, got, want)
		}
	}
	holds(t, r, p.items...)
}

// orders makes many calls of rows of many rooms, in an order without a rule; one of each so many is a Pop.
func orders[T comparable](t *testing.T, of func(int) T) {
	t.Helper()
	seed := spread(10)
	for _, room := range []int{1, 2, 3, 4, 5, 8, 31, 32, 33, 63, 64} {
		for _, often := range []int{2, 3, 5} {
			r, p := made[T](t, room), &plain[T]{room: room}
			for range 500 {
				which := 2
				if seed.below(150) == 0 {
					which = 0
				} else if seed.below(often) == 0 {
					which = 1
				}
				calls(t, r, p, which, of(seed.below(50)))
			}
		}
	}
}

func TestCallsInEveryOrder(t *testing.T) { // P10.1, P10.2
	orders(t, func(n int) int { return n - 10 })
	orders(t, func(n int) string { return strconv.Itoa(n)[1:] })
	orders(t, func(n int) thing { return thing{n % 3, "ab"[:n%2], [2]int{0, n / 5}} })
}

func TestEveryShortRowOfCalls(t *testing.T) { // P10.1, P10.2
	const long = 9
	for room := 1; room <= 4; room++ {
		// Each call is a Clear, a Pop, or a Push of the next number.
		for row := range 19683 {
			r, p := made[int](t, room), &plain[int]{room: room}
			for next := range long {
				calls(t, r, p, row%3, next)
				row /= 3
			}
		}
	}
}

func TestEveryRowOfPushesAndPops(t *testing.T) { // P10.1, P10.2
	const long = 12
	for room := 1; room <= 5; room++ {
		for row := range 1 << long {
			r, p := made[int](t, room), &plain[int]{room: room}
			for next := range long {
				calls(t, r, p, 1+row>>next&1, next)
			}
		}
	}
}

func TestWhatWasPushedIsPoppedOnceInItsOrder(t *testing.T) { // P10.2
	seed := spread(29)
	for room := 1; room <= 64; room++ {
		r := made[int](t, room)
		next, due := 0, 0
		for turn := range 60 * room {
			// Now more is pushed, now more is popped, so that it is full, and empty, again and again.
			more := turn / (3 * room) % 2
			if seed.below(4) < 1+2*more {
				if code := r.Push(next); code == api.OK {
					next++
				} else if code != api.ErrFull || next-due != room {
					t.Fatalf("%d of %d: Push: %d", next-due, room, code)
				}
			} else {
				x, ok := r.Pop()
				if ok != (next > due) || ok && x != due || !ok && x != 0 {
					t.Fatalf("Pop: %d, %v, not %d", x, ok, due)
				}
				if ok {
					due++
				}
			}
			// All that was pushed was popped, or is there, and that is never more than there is room for.
			if got := r.Len(); got != next-due || got > room {
				t.Fatalf("%d of %d, not %d", got, room, next-due)
			}
		}
		pops(t, r, from(due, next-due)...)
		bare(t, r)
		if next < 10*room {
			t.Fatalf("%d pushed alone", next)
		}
	}
}

func TestThereAreNeverMoreThanThereIsRoomFor(t *testing.T) { // P10.2
	for room := 1; room <= 64; room++ {
		for gone := range 3 {
			r := turned(t, room, gone, 0)
			taken := 0
			for next := range 3*room + 5 {
				if r.Push(next) == api.OK {
					taken++
				}
				if r.Len() > room || len(told(r)) > room {
					t.Fatalf("%d, and room for %d", r.Len(), room)
				}
			}
			if taken != room {
				t.Fatalf("%d taken, and room for %d", taken, room)
			}
			holds(t, r, from(0, room)...)
		}
	}
}
