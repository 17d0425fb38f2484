package links

import (
	"math"
	"slices"
	"testing"

	"angelus/api"
)

// every is the set of all bits; a variable, since it is moved beyond its type.
var every uint64 = math.MaxUint64

// plain is what links are to be, as the chapter tells them: of each node, a list of those to which it has a link.
type plain struct {
	near [][]int
}

// bare is as many nodes, without links.
func bare(n int) *plain {
	return &plain{make([][]int, n)}
}

// may is what May is to answer.
func (p *plain) may(i, k int) bool {
	return 0 <= i && i < len(p.near) && 0 <= k && k < len(p.near) && i != k
}

// set is what Set is to do, and to answer.
func (p *plain) set(i, k int, on bool) api.Errno {
	if !p.may(i, k) {
		return 1
	}
	p.turn(i, k, on)
	p.turn(k, i, on)
	return 0
}

// turn puts a node into another one's list, or takes it out.
func (p *plain) turn(i, k int, on bool) {
	p.near[i] = slices.DeleteFunc(p.near[i], func(other int) bool { return other == k })
	if on {
		p.near[i] = append(p.near[i], k)
	}
}

// has is what Has is to answer.
func (p *plain) has(i, k int) bool {
	return p.may(i, k) && slices.Contains(p.near[i], k)
}

// bits is what Near is to answer.
func (p *plain) bits(i int) uint64 {
	if i < 0 || i >= len(p.near) {
		return 0
	}
	return setOf(p.near[i]...)
}

// of answers whether a node is of a set.
func (p *plain) of(i int, on uint64) bool {
	return on/(1<<i)%2 == 1
}

// hops is what Hops is to answer: ways grow by a link, as long as one gets shorter by that.
func (p *plain) hops(from int, on uint64) []int {
	list := slices.Repeat([]int{-1}, len(p.near))
	if from < 0 || from >= len(p.near) || !p.of(from, on) {
		return list
	}
	list[from] = 0
	for shorter := true; shorter; {
		shorter = false
		for i, near := range p.near {
			for _, k := range near {
				if list[i] >= 0 && p.of(k, on) && (list[k] < 0 || list[k] > list[i]+1) {
					list[k], shorter = list[i]+1, true
				}
			}
		}
	}
	return list
}

// wide is what Wide is to answer.
func (p *plain) wide(on uint64) (int, bool) {
	wide, some := 0, false
	for from := range p.near {
		for to, hops := range p.hops(from, on) {
			if !p.of(from, on) || !p.of(to, on) {
				continue
			}
			if hops < 0 {
				return 0, false
			}
			wide, some = max(wide, hops), true
		}
	}
	return wide, some
}

// setOf is the set of those numbers.
func setOf(list ...int) uint64 {
	var set uint64
	for _, i := range list {
		set |= 1 << i
	}
	return set
}

// members is the numbers of a set's bits, rising, told by halving it.
func members(set uint64) []int {
	var list []int
	for i := 0; set > 0; i++ {
		if set%2 == 1 {
			list = append(list, i)
		}
		set /= 2
	}
	return list
}

// made is links of as many nodes, some of which have one.
func made(t *testing.T, n int, list ...[2]int) *Links {
	t.Helper()
	l, code := New(n)
	if l == nil || code != api.OK {
		t.Fatalf("New(%d): %v, %d", n, l, code)
	}
	sets(t, l, true, list...)
	return l
}

// sets sets links on, or off, and fails, unless they can be.
func sets(t *testing.T, l *Links, on bool, list ...[2]int) {
	t.Helper()
	for _, link := range list {
		if code := l.Set(link[0], link[1], on); code != api.OK {
			t.Fatalf("Set(%d, %d, %v): %d", link[0], link[1], on, code)
		}
	}
}

// holds fails, unless those links are there, and no others.
func holds(t *testing.T, l *Links, n int, list ...[2]int) {
	t.Helper()
	p := bare(n)
	for _, link := range list {
		p.set(link[0], link[1], true)
	}
	same(t, l, p)
}

// same fails, unless there are the links that the plain lists tell.
func same(t *testing.T, l *Links, p *plain) {
	t.Helper()
	if got := l.Len(); got != len(p.near) {
		t.Fatalf("Len: %d, not %d", got, len(p.near))
	}
	for i := range p.near {
		near(t, l, i, p.bits(i))
		for k := range p.near {
			has(t, l, i, k, p.has(i, k))
		}
	}
}

// near fails, unless Near answers that.
func near(t *testing.T, l *Links, i int, want uint64) {
	t.Helper()
	if got := l.Near(i); got != want {
		t.Fatalf("Near(%d): %b, not %b", i, got, want)
	}
}

// has fails, unless Has answers that.
func has(t *testing.T, l *Links, i, k int, want bool) {
	t.Helper()
	if got := l.Has(i, k); got != want {
		t.Fatalf("Has(%d, %d): %v, not %v", i, k, got, want)
	}
}

// may fails, unless May answers that.
func may(t *testing.T, l *Links, i, k int, want bool) {
	t.Helper()
	if got := l.May(i, k); got != want {
		t.Fatalf("May(%d, %d): %v, not %v", i, k, got, want)
	}
}

// refuses fails, unless Set is refused like that, both on and off.
func refuses(t *testing.T, l *Links, i, k int, want api.Errno) {
	t.Helper()
	for _, on := range []bool{false, true} {
		if code := l.Set(i, k, on); code != want {
			t.Fatalf("Set(%d, %d, %v): %d, not %d", i, k, on, code, want)
		}
	}
}

// hops fails, unless Hops answers that.
func hops(t *testing.T, l *Links, from int, on uint64, want ...int) {
	t.Helper()
	if got := l.Hops(from, on); !slices.Equal(got, want) {
		t.Fatalf("Hops(%d, %b): %v, not %v", from, on, got, want)
	}
}

// wide fails, unless Wide answers that.
func wide(t *testing.T, l *Links, on uint64, want int, whole bool) {
	t.Helper()
	if got, ok := l.Wide(on); got != want || ok != whole {
		t.Fatalf("Wide(%b): %d, %v, not %d, %v", on, got, ok, want, whole)
	}
}

// each fails, unless Each goes over that.
func each(t *testing.T, set uint64, want ...int) {
	t.Helper()
	if got := slices.Collect(Each(set)); !slices.Equal(got, want) {
		t.Fatalf("Each(%b): %v, not %v", set, got, want)
	}
}

// none is numbers that no node ever has: below 0, beyond the last one that there may be, and at the edges of their type and of smaller ones.
func none() []int {
	return []int{math.MinInt, math.MinInt + 1, -1 << 32, math.MinInt32, -256, -65, -64, -63, -2, -1, 64, 65, 127, 128, 255, 256, 257, math.MaxInt32, 1 << 32, 1<<32 + 1, math.MaxInt - 1, math.MaxInt}
}

// numbers is those that no node of so many has, and those that one has.
func numbers(n int) []int {
	list := none()
	for i := range 64 {
		list = append(list, i)
	}
	return append(list, n, n-1, -n)
}

// row is a link from each of so many nodes to the next one.
func row(n int) [][2]int {
	list := [][2]int{}
	for i := 1; i < n; i++ {
		list = append(list, [2]int{i - 1, i})
	}
	return list
}

// pairs is all links that there may be between so many nodes, each one once.
func pairs(n int) [][2]int {
	list := [][2]int{}
	for k := range n {
		for i := range k {
			list = append(list, [2]int{i, k})
		}
	}
	return list
}

// spread is a row of numbers without a rule, the same in each run.
type spread uint32

// below answers the next one, from 0 on.
func (s *spread) below(n int) int {
	*s = *s*1664525 + 1013904223
	return int(*s>>8) % n
}

// set answers a set of which each bit is 1 about so many times of 8.
func (s *spread) set(often int) uint64 {
	var set uint64
	for i := range 64 {
		if s.below(8) < often {
			set |= 1 << i
		}
	}
	return set
}

// web sets links between so many of 100 pairs, and answers them and their plain lists.
func (s *spread) web(t *testing.T, n, often int) (*Links, *plain) {
	t.Helper()
	l, p := made(t, n), bare(n)
	for _, link := range pairs(n) {
		if s.below(100) < often {
			sets(t, l, true, link)
			p.set(link[0], link[1], true)
		}
	}
	return l, p
}

func TestNilLinks(t *testing.T) { // P8.1
	var l *Links
	if got := l.Len(); got != 0 {
		t.Fatalf("Len: %d", got)
	}
	for _, i := range numbers(0) {
		near(t, l, i, 0)
		for _, on := range []uint64{0, 1, 2, 1 << 63, every} {
			hops(t, l, i, on)
			wide(t, l, on, 0, false)
		}
		for _, k := range numbers(0) {
			may(t, l, i, k, false)
			has(t, l, i, k, false)
			refuses(t, l, i, k, api.ErrNil)
		}
	}
}

func TestNewOfWhatCanBe(t *testing.T) { // P8.1
	for n := 1; n <= 64; n++ {
		holds(t, made(t, n), n)
	}
	hops(t, made(t, 1), 0, every, 0)
	wide(t, made(t, 1), every, 0, true)
	hops(t, made(t, 2), 0, every, 0, -1)
	wide(t, made(t, 2), every, 0, false)
	wide(t, made(t, 64), every, 0, false)
}

func TestNewOfWhatCannotBe(t *testing.T) { // P8.1
	for _, n := range append(none(), 0, -3, 66, 1000, 1<<32+64, math.MinInt+64) {
		if n == 64 {
			continue
		}
		if l, code := New(n); l != nil || code != api.ErrArg {
			t.Fatalf("New(%d): %v, %d", n, l, code)
		}
	}
}

func TestTheChaptersExample(t *testing.T) { // P8.1
	l := made(t, 3, [2]int{0, 1}, [2]int{1, 2})
	hops(t, l, 0, setOf(0, 1, 2), 0, 1, 2)
	hops(t, l, 0, setOf(0, 2), 0, -1, -1)
}

func TestMayOfAllNumbers(t *testing.T) { // P8.1
	for _, n := range []int{1, 2, 3, 5, 31, 32, 33, 63, 64} {
		l := made(t, n, row(n)...)
		for _, i := range numbers(n) {
			for _, k := range numbers(n) {
				may(t, l, i, k, i >= 0 && i < n && k >= 0 && k < n && i != k)
			}
		}
		holds(t, l, n, row(n)...)
	}
}

func TestSetOfTwoNodes(t *testing.T) { // P8.1
	for _, n := range []int{2, 3, 5, 33, 64} {
		for _, link := range pairs(n) {
			i, k := link[0], link[1]
			// Each way round: set one way, taken off the other way.
			for range 2 {
				l := made(t, n, [2]int{i, k})
				near(t, l, i, setOf(k))
				near(t, l, k, setOf(i))
				has(t, l, i, k, true)
				has(t, l, k, i, true)
				sets(t, l, false, [2]int{k, i})
				near(t, l, i, 0)
				near(t, l, k, 0)
				has(t, l, i, k, false)
				has(t, l, k, i, false)
				i, k = k, i
			}
		}
	}
}

func TestSetOfWhatThereIsNot(t *testing.T) { // P8.1
	for _, n := range []int{1, 2, 5, 63, 64} {
		l := made(t, n, row(n)...)
		for _, i := range append(none(), n, n+1) {
			for _, k := range []int{0, n - 1, n / 2, i, n, -1, math.MaxInt, math.MinInt} {
				refuses(t, l, i, k, api.ErrArg)
				refuses(t, l, k, i, api.ErrArg)
			}
		}
		holds(t, l, n, row(n)...)
	}
}

func TestSetOfTheSameOneTwice(t *testing.T) { // P8.1
	for _, n := range []int{1, 2, 5, 64} {
		l := made(t, n, row(n)...)
		for i := range n {
			may(t, l, i, i, false)
			refuses(t, l, i, i, api.ErrArg)
			has(t, l, i, i, false)
		}
		holds(t, l, n, row(n)...)
	}
}

func TestSetTwiceTheSame(t *testing.T) { // P8.1
	l := made(t, 4, [2]int{0, 1}, [2]int{1, 2})
	// What is on already stays on, each way round.
	sets(t, l, true, [2]int{0, 1}, [2]int{1, 0}, [2]int{0, 1}, [2]int{2, 1})
	holds(t, l, 4, [2]int{0, 1}, [2]int{1, 2})
	sets(t, l, false, [2]int{0, 1})
	holds(t, l, 4, [2]int{1, 2})
	sets(t, l, false, [2]int{0, 1}, [2]int{1, 0}, [2]int{0, 1})
	holds(t, l, 4, [2]int{1, 2})
	// However often it was set on, off is off.
	sets(t, l, true, [2]int{2, 3}, [2]int{3, 2}, [2]int{2, 3})
	sets(t, l, false, [2]int{2, 3})
	holds(t, l, 4, [2]int{1, 2})
}

func TestSetOffWhereThereIsNone(t *testing.T) { // P8.1
	l := made(t, 5)
	for _, link := range pairs(5) {
		sets(t, l, false, link, [2]int{link[1], link[0]})
		holds(t, l, 5)
	}
	sets(t, l, true, [2]int{0, 4})
	sets(t, l, false, [2]int{0, 3}, [2]int{1, 4}, [2]int{2, 3})
	holds(t, l, 5, [2]int{0, 4})
	sets(t, l, false, [2]int{4, 0})
	holds(t, l, 5)
}

func TestNearAndHasOfEachNodeAndOfNone(t *testing.T) { // P8.1
	seed := spread(8)
	for _, n := range []int{1, 2, 5, 32, 63, 64} {
		for _, often := range []int{0, 10, 50, 100} {
			l, p := seed.web(t, n, often)
			for _, i := range numbers(n) {
				near(t, l, i, p.bits(i))
				for _, k := range numbers(n) {
					has(t, l, i, k, p.has(i, k))
				}
			}
		}
	}
	full := made(t, 64, pairs(64)...)
	for i := range 64 {
		near(t, full, i, every&^setOf(i))
	}
}

func TestHopsFromEachNode(t *testing.T) { // P8.1
	l := made(t, 6, [2]int{0, 1}, [2]int{1, 2}, [2]int{2, 3}, [2]int{3, 0}, [2]int{3, 4})
	all := setOf(0, 1, 2, 3, 4, 5)
	hops(t, l, 0, all, 0, 1, 2, 1, 2, -1)
	hops(t, l, 1, all, 1, 0, 1, 2, 3, -1)
	hops(t, l, 2, all, 2, 1, 0, 1, 2, -1)
	hops(t, l, 3, all, 1, 2, 1, 0, 1, -1)
	hops(t, l, 4, all, 2, 3, 2, 1, 0, -1)
	hops(t, l, 5, all, -1, -1, -1, -1, -1, 0)
}

func TestHopsOverSome(t *testing.T) { // P8.1
	l := made(t, 5, [2]int{0, 1}, [2]int{1, 2}, [2]int{2, 3}, [2]int{3, 4}, [2]int{4, 0})
	hops(t, l, 0, setOf(0, 1, 2, 3, 4), 0, 1, 2, 2, 1)
	// The other way round the ring, where the near one is closed.
	hops(t, l, 0, setOf(0, 2, 3, 4), 0, -1, 3, 2, 1)
	hops(t, l, 0, setOf(0, 1, 2, 3), 0, 1, 2, 3, -1)
	// Who isn't of the set isn't reached, though one next to it is.
	hops(t, l, 0, setOf(0, 1, 3), 0, 1, -1, -1, -1)
	hops(t, l, 0, setOf(0, 2, 3), 0, -1, -1, -1, -1)
	hops(t, l, 2, setOf(0, 2, 3), -1, -1, 0, 1, -1)
	hops(t, l, 0, setOf(0), 0, -1, -1, -1, -1)
	hops(t, l, 0, 0, -1, -1, -1, -1, -1)
}

func TestHopsFromWhatIsNotOfTheSet(t *testing.T) { // P8.1
	l := made(t, 4, row(4)...)
	hops(t, l, 0, setOf(1, 2, 3), -1, -1, -1, -1)
	hops(t, l, 2, setOf(0, 1, 3), -1, -1, -1, -1)
	hops(t, l, 3, every&^setOf(3), -1, -1, -1, -1)
	for from := range 4 {
		hops(t, l, from, 0, -1, -1, -1, -1)
		hops(t, l, from, every&^setOf(0, 1, 2, 3), -1, -1, -1, -1)
	}
}

func TestHopsFromWhatThereIsNot(t *testing.T) { // P8.1
	for _, n := range []int{1, 2, 5, 63, 64} {
		l := made(t, n, pairs(n)...)
		for _, from := range append(none(), n, n+1) {
			for _, on := range []uint64{0, 1, every, 1<<n - 1} {
				hops(t, l, from, on, slices.Repeat([]int{-1}, n)...)
			}
		}
	}
	// The bit of its number doesn't make it one.
	hops(t, made(t, 3, row(3)...), 3, every, -1, -1, -1)
	hops(t, made(t, 3, row(3)...), 63, every, -1, -1, -1)
}

func TestHopsOfBitsBeyondTheNodes(t *testing.T) { // P8.1
	seed := spread(9)
	for _, n := range []int{1, 2, 5, 32, 63} {
		l, _ := seed.web(t, n, 30)
		for range 20 {
			on := seed.set(6)
			for from := range n {
				hops(t, l, from, on, l.Hops(from, on&(1<<n-1))...)
				hops(t, l, from, on|every<<n, l.Hops(from, on)...)
			}
		}
	}
}

func TestHopsOverAllNodesThereMayBe(t *testing.T) { // P8.1
	long := made(t, 64, row(64)...)
	for from := range 64 {
		var want []int
		for to := range 64 {
			want = append(want, max(from-to, to-from))
		}
		hops(t, long, from, every, want...)
	}
	wide(t, long, every, 63, true)
	wide(t, long, every>>1, 62, true)
	wide(t, long, every<<1, 62, true)
	wide(t, long, every&^setOf(32), 0, false)
	// Closed to a ring, it is half as wide.
	sets(t, long, true, [2]int{63, 0})
	wide(t, long, every, 32, true)
	wide(t, long, every&^setOf(32), 62, true)
	star := made(t, 64)
	for i := range 63 {
		sets(t, star, true, [2]int{63, i})
	}
	wide(t, star, every, 2, true)
	wide(t, star, setOf(7, 63), 1, true)
	wide(t, star, every>>1, 0, false)
	wide(t, made(t, 64, pairs(64)...), every, 1, true)
}

func TestWideOfNoNode(t *testing.T) { // P8.1
	l := made(t, 4, row(4)...)
	for _, on := range []uint64{0, setOf(4), setOf(63), setOf(4, 5, 6), every &^ setOf(0, 1, 2, 3)} {
		wide(t, l, on, 0, false)
	}
	wide(t, made(t, 64, row(64)...), 0, 0, false)
}

func TestWideOfOneNode(t *testing.T) { // P8.1
	for _, n := range []int{1, 2, 5, 64} {
		for _, l := range []*Links{made(t, n), made(t, n, row(n)...)} {
			for i := range n {
				wide(t, l, setOf(i), 0, true)
			}
		}
	}
}

func TestWideOfAllAndOfSome(t *testing.T) { // P8.1
	l := made(t, 5, [2]int{0, 1}, [2]int{1, 2}, [2]int{2, 3}, [2]int{3, 4}, [2]int{1, 4})
	wide(t, l, setOf(0, 1, 2, 3, 4), 3, true)
	wide(t, l, setOf(0, 1, 2, 3), 3, true)
	wide(t, l, setOf(1, 2, 3, 4), 2, true)
	wide(t, l, setOf(0, 1, 4), 2, true)
	wide(t, l, setOf(3, 4), 1, true)
	// Without the short way it is wider.
	wide(t, l, setOf(0, 1, 3, 4), 3, true)
	sets(t, l, false, [2]int{1, 4})
	wide(t, l, setOf(0, 1, 2, 3, 4), 4, true)
}

func TestWideOfWhatDoesNotHangTogether(t *testing.T) { // P8.1
	l := made(t, 6, [2]int{0, 1}, [2]int{1, 2}, [2]int{3, 4})
	for _, on := range []uint64{setOf(0, 2), setOf(0, 3), setOf(0, 1, 2, 3, 4), setOf(0, 1, 2, 5), setOf(5, 4), every} {
		wide(t, l, on, 0, false)
	}
	wide(t, l, setOf(0, 1, 2), 2, true)
	// Another one ties them, if it is of the set.
	sets(t, l, true, [2]int{5, 2}, [2]int{5, 3})
	wide(t, l, setOf(0, 1, 2, 3, 4), 0, false)
	wide(t, l, setOf(0, 1, 2, 3, 4, 5), 5, true)
}

func TestWideOfBitsBeyondTheNodes(t *testing.T) { // P8.1
	l := made(t, 5, row(4)...)
	for _, beyond := range []uint64{setOf(5), setOf(63), setOf(5, 40), every << 5} {
		wide(t, l, setOf(0, 1, 2, 3)|beyond, 3, true)
		wide(t, l, setOf(1, 2)|beyond, 1, true)
		wide(t, l, setOf(4)|beyond, 0, true)
		wide(t, l, setOf(3, 4)|beyond, 0, false)
		wide(t, l, beyond, 0, false)
	}
}

func TestEachOfSets(t *testing.T) { // P8.1
	each(t, 0)
	for i := range 64 {
		each(t, 1<<i, i)
		each(t, every<<i, members(every<<i)...)
		each(t, every>>i, members(every>>i)...)
	}
	each(t, 1|1<<63, 0, 63)
	each(t, 5, 0, 2)
	each(t, 1<<63|1<<62|1<<32|1<<31, 31, 32, 62, 63)
	all := slices.Collect(Each(every))
	if len(all) != 64 {
		t.Fatalf("%d of 64: %v", len(all), all)
	}
	for place, i := range all {
		if i != place {
			t.Fatalf("%d in place %d", i, place)
		}
	}
	seed := spread(10)
	for often := range 9 {
		for range 200 {
			set := seed.set(often)
			each(t, set, members(set)...)
		}
	}
}

func TestEachLeftAtAnyTime(t *testing.T) { // P8.1
	for _, set := range []uint64{1, 1 << 63, 1 | 1<<63, 0xf0f0, every} {
		want := members(set)
		for count := 1; count <= len(want); count++ {
			var list []int
			for i := range Each(set) {
				list = append(list, i)
				if len(list) == count {
					break
				}
			}
			if !slices.Equal(list, want[:count]) {
				t.Fatalf("%b: %v", set, list)
			}
			// Nothing is told any more to somebody who said that it is enough.
			calls := 0
			Each(set)(func(int) bool {
				calls++
				return calls < count
			})
			if calls != count {
				t.Fatalf("%b: %d calls, not %d", set, calls, count)
			}
		}
	}
	Each(0)(func(i int) bool {
		t.Fatalf("%d of none", i)
		return true
	})
}

func TestEachGoneOverTwice(t *testing.T) { // P8.1
	for _, set := range []uint64{0, 6, 1 | 1<<63, every} {
		bits := Each(set)
		for range bits {
			break
		}
		for range 3 {
			if got := slices.Collect(bits); !slices.Equal(got, members(set)) {
				t.Fatalf("%b: %v", set, got)
			}
		}
		// Gone over within itself.
		for i := range bits {
			if got := slices.Collect(bits); !slices.Equal(got, members(set)) {
				t.Fatalf("%b, within %d: %v", set, i, got)
			}
		}
	}
}

func TestEachOfWhatIsChanged(t *testing.T) { // P8.1
	// A set is a number: links that change behind it don't change it.
	l := made(t, 64, pairs(64)...)
	var list []int
	for k := range Each(l.Near(5)) {
		sets(t, l, false, [2]int{5, k})
		list = append(list, k)
	}
	if !slices.Equal(list, members(every&^setOf(5))) {
		t.Fatalf("%v", list)
	}
	near(t, l, 5, 0)
}

func TestAnswersAreNewMemory(t *testing.T) { // P8.1
	l := made(t, 5, row(5)...)
	all := setOf(0, 1, 2, 3, 4)
	first, second := l.Hops(0, all), l.Hops(0, all)
	other := l.Hops(4, 0)
	for place := range first {
		first[place] = 77
	}
	first = append(first[:2], 88, 88, 88, 88)
	if want := []int{0, 1, 2, 3, 4}; !slices.Equal(second, want) || len(first) != 6 {
		t.Fatalf("%v, not %v", second, want)
	}
	if want := []int{-1, -1, -1, -1, -1}; !slices.Equal(other, want) {
		t.Fatalf("%v, not %v", other, want)
	}
	hops(t, l, 0, all, 0, 1, 2, 3, 4)
	wide(t, l, all, 4, true)
	// What was answered stays as it was, whatever is asked and set behind it.
	sets(t, l, true, [2]int{0, 4})
	hops(t, l, 0, all, 0, 1, 2, 2, 1)
	if want := []int{0, 1, 2, 3, 4}; !slices.Equal(second, want) {
		t.Fatalf("%v, not %v", second, want)
	}
	holds(t, l, 5, append(row(5), [2]int{0, 4})...)
}

func TestLinksKnowNothingOfOneAnother(t *testing.T) { // P8.1
	one, other := made(t, 4, row(4)...), made(t, 4, [2]int{0, 3})
	sets(t, one, false, [2]int{1, 2})
	holds(t, other, 4, [2]int{0, 3})
	sets(t, other, true, [2]int{1, 2})
	holds(t, one, 4, [2]int{0, 1}, [2]int{2, 3})
	wide(t, one, every, 0, false)
	hops(t, other, 0, every, 0, -1, -1, 1)
}

func TestAskingChangesNothing(t *testing.T) { // P8.1
	l := made(t, 6, row(6)...)
	for _, i := range numbers(6) {
		l.Len()
		l.Near(i)
		l.Hops(i, every)
		l.Hops(i, setOf(1, 3))
		l.Wide(every)
		l.Wide(1<<7 | 1<<5)
		for _, k := range numbers(6) {
			l.May(i, k)
			l.Has(i, k)
		}
		holds(t, l, 6, row(6)...)
	}
}

// answers fails, unless links answer what their plain lists do, of a set and of a node.
func answers(t *testing.T, l *Links, p *plain, from int, on uint64) {
	t.Helper()
	hops(t, l, from, on, p.hops(from, on)...)
	widest, whole := p.wide(on)
	wide(t, l, on, widest, whole)
}

func TestCallsInEveryOrder(t *testing.T) { // P8.1
	seed := spread(11)
	for _, n := range []int{1, 2, 3, 4, 7, 12} {
		// On more often than off, and the other way round: nearly full, and nearly empty.
		for _, often := range []int{1, 2, 3, 4} {
			l, p := made(t, n), bare(n)
			for range 300 {
				i, k, on := seed.below(n+2)-1, seed.below(n+2)-1, seed.below(5) < often
				may(t, l, i, k, p.may(i, k))
				if got, want := l.Set(i, k, on), p.set(i, k, on); got != want {
					t.Fatalf("Set(%d, %d, %v): %d, not %d", i, k, on, got, want)
				}
				same(t, l, p)
				answers(t, l, p, seed.below(n+2)-1, seed.set(seed.below(9)))
			}
		}
	}
}

func TestManyNodes(t *testing.T) { // P8.1
	seed := spread(12)
	for _, n := range []int{31, 32, 33, 63, 64} {
		for _, often := range []int{2, 4, 8, 50} {
			l, p := seed.web(t, n, often)
			same(t, l, p)
			for _, on := range []uint64{every, seed.set(7), seed.set(4)} {
				for from := range n {
					hops(t, l, from, on, p.hops(from, on)...)
				}
				widest, whole := p.wide(on)
				wide(t, l, on, widest, whole)
			}
		}
	}
}

func TestAllLinksOfFewNodes(t *testing.T) { // P8.1
	for n := 1; n <= 4; n++ {
		links := pairs(n)
		for web := range 1 << len(links) {
			l, p := made(t, n), bare(n)
			for _, place := range members(uint64(web)) {
				sets(t, l, true, links[place])
				p.set(links[place][0], links[place][1], true)
			}
			same(t, l, p)
			for on := range uint64(1) << (n + 1) {
				for from := -1; from <= n; from++ {
					answers(t, l, p, from, on)
				}
			}
		}
	}
}

// apart fails, unless of two that have a link, both of a set, none or both are reached, by numbers that differ by 1 at most.
func apart(t *testing.T, l *Links, from int, on uint64) {
	t.Helper()
	far := l.Hops(from, on)
	for i := range l.Len() {
		for k := range Each(l.Near(i) & on) {
			if on>>i&1 == 0 {
				continue
			}
			if (far[i] < 0) != (far[k] < 0) || far[i]-far[k] > 1 || far[k]-far[i] > 1 {
				t.Fatalf("from %d over %b: %d by %d, %d by %d", from, on, i, far[i], k, far[k])
			}
		}
	}
}

func TestThoseThatHaveALinkAreAboutAsFar(t *testing.T) { // P8.2
	seed := spread(13)
	for _, n := range []int{2, 3, 6, 20, 63, 64} {
		for _, often := range []int{1, 3, 5, 10, 30, 100} {
			l, _ := seed.web(t, n, often)
			for from := range n {
				apart(t, l, from, every)
				apart(t, l, from, seed.set(6)|setOf(from))
			}
		}
	}
	long := made(t, 64, row(64)...)
	for from := range 64 {
		apart(t, long, from, every)
		apart(t, long, from, seed.set(7))
	}
}

func TestLinksGoBothWays(t *testing.T) { // P8.2
	seed := spread(14)
	for _, n := range []int{2, 3, 9, 64} {
		l := made(t, n)
		for range 300 {
			l.Set(seed.below(n+1), seed.below(n+1)-1, seed.below(3) > 0)
			on, reached := seed.set(7), [][]int{}
			for i := range n {
				reached = append(reached, l.Hops(i, on))
				for k := range n {
					has(t, l, k, i, l.Has(i, k))
					has(t, l, k, i, l.Near(i)&setOf(k) != 0)
				}
			}
			// So do ways: as far as one is from another one, that one is from it.
			for _, link := range pairs(n) {
				i, k := link[0], link[1]
				if reached[i][k] != reached[k][i] {
					t.Fatalf("%d, %d over %b: %d, back %d", i, k, on, reached[i][k], reached[k][i])
				}
			}
		}
	}
}
