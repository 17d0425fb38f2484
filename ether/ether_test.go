package ether

import (
	"math"
	"slices"
	"testing"

	"angelus/api"
	"angelus/links"
)

// every is the set of all bits; a variable, since it is moved beyond its type.
var every uint64 = math.MaxUint64

// quiet is the ear of a node to which nothing comes.
var quiet = Ear{-1, Nothing}

// made is links of as many nodes, some of which have one.
func made(t *testing.T, n int, list ...[2]int) *links.Links {
	t.Helper()
	l, code := links.New(n)
	if l == nil || code != api.OK {
		t.Fatalf("New(%d): %v, %d", n, l, code)
	}
	for _, link := range list {
		if code := l.Set(link[0], link[1], true); code != api.OK {
			t.Fatalf("Set(%d, %d, true): %d", link[0], link[1], code)
		}
	}
	return l
}

// row is a link from each of so many nodes to the next one.
func row(n int) [][2]int {
	list := [][2]int{}
	for i := 1; i < n; i++ {
		list = append(list, [2]int{i - 1, i})
	}
	return list
}

// star is a link from each of so many nodes to the node 0.
func star(n int) [][2]int {
	list := [][2]int{}
	for i := 1; i < n; i++ {
		list = append(list, [2]int{0, i})
	}
	return list
}

// pairs is all links that there may be between so many nodes, each one once.
func pairs(n int) [][2]int {
	list := [][2]int{}
	for k := range n {
		for i := range k {
			list = append(list, [2]int{i, k})
		}
	}
	return list
}

// webs is all links of so many nodes.
func webs(t *testing.T, n int) []*links.Links {
	t.Helper()
	list := []*links.Links{}
	all := pairs(n)
	for web := range uint64(1) << len(all) {
		l := made(t, n)
		for place, link := range all {
			l.Set(link[0], link[1], of(place, web))
		}
		list = append(list, l)
	}
	return list
}

// setOf is the set of those numbers.
func setOf(list ...int) uint64 {
	var set uint64
	for _, i := range list {
		set |= 1 << i
	}
	return set
}

// of answers whether a node is of a set, told by dividing it.
func of(i int, set uint64) bool {
	for range i {
		set /= 2
	}
	return set%2 == 1
}

// none is numbers that no node ever has: below 0, beyond the last one that there may be, and at the edges of their type and of smaller ones.
func none() []int {
	return []int{math.MinInt, math.MinInt + 1, -1 << 32, math.MinInt32, -256, -65, -64, -63, -2, -1, 64, 65, 127, 128, 255, 256, 257, math.MaxInt32, 1 << 32, 1<<32 + 1, math.MaxInt - 1, math.MaxInt}
}

// spread is a row of numbers without a rule, the same in each run.
type spread uint32

// below answers the next one, from 0 on.
func (s *spread) below(n int) int {
	*s = *s*1664525 + 1013904223
	return int(*s>>8) % n
}

// set answers a set of which each bit is 1 about so many times of 8.
func (s *spread) set(often int) uint64 {
	var set uint64
	for i := range 64 {
		if s.below(8) < often {
			set |= 1 << i
		}
	}
	return set
}

// lost answers so many sets, each bit of which is 1 about so many times of 8.
func (s *spread) lost(n, often int) []uint64 {
	list := []uint64{}
	for range n {
		list = append(list, s.set(often))
	}
	return list
}

// web answers links between so many of 100 pairs.
func (s *spread) web(t *testing.T, n, often int) *links.Links {
	t.Helper()
	l := made(t, n)
	for _, link := range pairs(n) {
		l.Set(link[0], link[1], s.below(100) < often)
	}
	return l
}

// come is those who send, and to whom a node has a link.
func come(l *links.Links, i int, send uint64) []int {
	var list []int
	for k := range l.Len() {
		if l.Has(i, k) && of(k, send) {
			list = append(list, k)
		}
	}
	return list
}

// plainEar is what a node's Ear is to be, as the chapter tells it: from the last reason to the first one, which takes the place of those behind it.
func plainEar(l *links.Links, i int, send, awake uint64, lost []uint64) Ear {
	list := come(l, i, send)
	if len(list) == 0 {
		return Ear{-1, 0}
	}
	ear := Ear{-1, 1}
	if len(list) == 1 {
		ear.From = list[0]
		if i < len(lost) && of(list[0], lost[i]) {
			ear.Why = 5
		}
	} else {
		ear.Why = 4
	}
	if !of(i, awake) {
		ear.Why = 3
	}
	if of(i, send) {
		ear.Why = 2
	}
	return ear
}

// plainStep is what Step is to answer.
func plainStep(l *links.Links, send, awake uint64, lost []uint64) []Ear {
	var ears []Ear
	for i := range l.Len() {
		ears = append(ears, plainEar(l, i, send, awake, lost))
	}
	return ears
}

// plainAsk is what Ask is to answer.
func plainAsk(l *links.Links, from int, ears []Ear) uint64 {
	var list []int
	for i, ear := range ears {
		if l.Has(from, i) && ear.From == from && ear.Why == 1 {
			list = append(list, i)
		}
	}
	return setOf(list...)
}

// step fails, unless Step answers that.
func step(t *testing.T, l *links.Links, send, awake uint64, lost []uint64, want ...Ear) {
	t.Helper()
	if got := Step(l, send, awake, lost...); !slices.Equal(got, want) {
		t.Fatalf("Step(%b, %b, %b): %v, not %v", send, awake, lost, got, want)
	}
}

// ask fails, unless Ask answers that.
func ask(t *testing.T, l *links.Links, from int, ears []Ear, want uint64) {
	t.Helper()
	if got := Ask(l, from, ears...); got != want {
		t.Fatalf("Ask(%d, %v): %b, not %b", from, ears, got, want)
	}
}

// plainly fails, unless Step, and Ask of all nodes, answer what the plain reckoning does.
func plainly(t *testing.T, l *links.Links, send, awake uint64, lost ...uint64) {
	t.Helper()
	want := plainStep(l, send, awake, lost)
	step(t, l, send, awake, lost, want...)
	for from := -1; from <= l.Len(); from++ {
		ask(t, l, from, want, plainAsk(l, from, want))
	}
}

// whys fails, unless of three nodes in a row the one between hears from that one, for that reason.
func whys(t *testing.T, send, awake uint64, lost uint64, from int, why Why) {
	t.Helper()
	l := made(t, 3, row(3)...)
	if got, want := Step(l, send, awake, 0, lost)[1], (Ear{from, why}); got != want {
		t.Fatalf("Step(%b, %b, %b): %v, not %v", send, awake, lost, got, want)
	}
}

func TestReasonsAreNumbers(t *testing.T) { // P9.1
	for number, why := range []Why{Nothing, Heard, Busy, Asleep, Collided, Lost} {
		if int(why) != number {
			t.Fatalf("%d, not %d", why, number)
		}
	}
}

func TestNilLinks(t *testing.T) { // P9.1
	for _, set := range []uint64{0, 1, 2, 1 << 63, every} {
		step(t, nil, set, set, nil)
		step(t, nil, set, every, []uint64{set, set})
		step(t, nil, every, set, slices.Repeat([]uint64{set}, 70))
	}
	for _, from := range append(none(), 0, 1, 62, 63) {
		ask(t, nil, from, nil, 0)
		ask(t, nil, from, []Ear{{from, Heard}}, 0)
		ask(t, nil, from, slices.Repeat([]Ear{{from, Heard}}, 70), 0)
	}
}

func TestOneNode(t *testing.T) { // P9.1
	l := made(t, 1)
	for _, send := range []uint64{0, 1, 2, every} {
		for _, awake := range []uint64{0, 1, 2, every} {
			step(t, l, send, awake, nil, quiet)
			step(t, l, send, awake, []uint64{every}, quiet)
			step(t, l, send, awake, []uint64{every, every}, quiet)
		}
	}
	// It has no link, not to itself either.
	ask(t, l, 0, []Ear{{0, Heard}}, 0)
	ask(t, l, 0, []Ear{{0, Heard}, {0, Heard}}, 0)
}

func TestTheChaptersExample(t *testing.T) { // P9.1
	l := made(t, 3, [2]int{0, 1}, [2]int{1, 2})
	step(t, l, setOf(0), setOf(0, 1, 2), nil, quiet, Ear{0, Heard}, quiet)
	step(t, l, setOf(0, 2), setOf(0, 1, 2), nil, quiet, Ear{-1, Collided}, quiet)
}

func TestNobodySends(t *testing.T) { // P9.1
	seed := spread(1)
	for _, n := range []int{1, 2, 3, 7, 63, 64} {
		l := made(t, n, pairs(n)...)
		want := slices.Repeat([]Ear{quiet}, n)
		for _, awake := range []uint64{0, 1, every} {
			step(t, l, 0, awake, nil, want...)
			step(t, l, 0, awake, seed.lost(n, 4), want...)
			step(t, l, 0, awake, slices.Repeat([]uint64{every}, n), want...)
		}
		for from := -1; from <= n; from++ {
			ask(t, l, from, want, 0)
		}
	}
}

func TestOneSends(t *testing.T) { // P9.1
	for _, n := range []int{2, 3, 7, 63, 64} {
		whole, long, alone := made(t, n, pairs(n)...), made(t, n, row(n)...), made(t, n)
		for from := range n {
			all := slices.Repeat([]Ear{{from, Heard}}, n)
			all[from] = quiet
			step(t, whole, setOf(from), every, nil, all...)
			near := slices.Repeat([]Ear{quiet}, n)
			for _, i := range []int{from - 1, from + 1} {
				if i >= 0 && i < n {
					near[i] = Ear{from, Heard}
				}
			}
			step(t, long, setOf(from), every, nil, near...)
			step(t, alone, setOf(from), every, nil, slices.Repeat([]Ear{quiet}, n)...)
		}
	}
}

func TestTwoSendThatAreHeardByTheSame(t *testing.T) { // P9.1
	l := made(t, 5, [2]int{0, 2}, [2]int{1, 2}, [2]int{1, 3})
	// Who hears one of them alone hears it.
	step(t, l, setOf(0, 1), every, nil, quiet, quiet, Ear{-1, Collided}, Ear{1, Heard}, quiet)
	step(t, l, setOf(0, 3), every, nil, quiet, Ear{3, Heard}, Ear{0, Heard}, quiet, quiet)
	step(t, l, setOf(0, 1, 4), every, nil, quiet, quiet, Ear{-1, Collided}, Ear{1, Heard}, quiet)
	wide := made(t, 64, star(64)...)
	for i := 1; i < 64; i++ {
		for k := 1; k < i; k++ {
			want := slices.Repeat([]Ear{quiet}, 64)
			want[0] = Ear{-1, Collided}
			step(t, wide, setOf(i, k), every, nil, want...)
		}
	}
}

func TestAllSend(t *testing.T) { // P9.1
	step(t, made(t, 2, row(2)...), setOf(0, 1), every, nil, Ear{1, Busy}, Ear{0, Busy})
	step(t, made(t, 3, row(3)...), setOf(0, 1, 2), every, nil, Ear{1, Busy}, Ear{-1, Busy}, Ear{1, Busy})
	step(t, made(t, 3, pairs(3)...), setOf(0, 1, 2), every, nil, slices.Repeat([]Ear{{-1, Busy}}, 3)...)
	step(t, made(t, 3, [2]int{0, 2}), setOf(0, 1, 2), every, nil, Ear{2, Busy}, quiet, Ear{0, Busy})
	for _, n := range []int{3, 63, 64} {
		step(t, made(t, n, pairs(n)...), every, every, nil, slices.Repeat([]Ear{{-1, Busy}}, n)...)
		step(t, made(t, n), every, every, nil, slices.Repeat([]Ear{quiet}, n)...)
	}
}

func TestEachReason(t *testing.T) { // P9.1
	all := setOf(0, 1, 2)
	whys(t, 0, all, 0, -1, Nothing)
	whys(t, setOf(0), all, 0, 0, Heard)
	whys(t, setOf(2), all, 0, 2, Heard)
	whys(t, setOf(0, 1), all, 0, 0, Busy)
	whys(t, setOf(1, 2), all, 0, 2, Busy)
	whys(t, setOf(0), setOf(0, 2), 0, 0, Asleep)
	whys(t, setOf(2), setOf(0, 2), 0, 2, Asleep)
	whys(t, setOf(0, 2), all, 0, -1, Collided)
	whys(t, setOf(0), all, setOf(0), 0, Lost)
	whys(t, setOf(2), all, setOf(2), 2, Lost)
}

func TestTheFirstReasonOfTwo(t *testing.T) { // P9.1
	all, others := setOf(0, 1, 2), setOf(0, 2)
	// Where nothing comes no other reason is told.
	whys(t, setOf(1), all, 0, -1, Nothing)
	whys(t, 0, others, 0, -1, Nothing)
	whys(t, 0, all, every, -1, Nothing)
	// Busy, with each one behind it.
	whys(t, setOf(0, 1), others, 0, 0, Busy)
	whys(t, setOf(0, 1, 2), all, 0, -1, Busy)
	whys(t, setOf(0, 1), all, setOf(0), 0, Busy)
	// Asleep, with each one behind it.
	whys(t, setOf(0, 2), others, 0, -1, Asleep)
	whys(t, setOf(0), others, setOf(0), 0, Asleep)
	// Of several, even if one or all of them are lost.
	whys(t, setOf(0, 2), all, setOf(0), -1, Collided)
	whys(t, setOf(0, 2), all, setOf(2), -1, Collided)
	whys(t, setOf(0, 2), all, every, -1, Collided)
}

func TestTheFirstReasonOfMore(t *testing.T) { // P9.1
	all, others := setOf(0, 1, 2), setOf(0, 2)
	whys(t, setOf(1), others, every, -1, Nothing)
	whys(t, setOf(1), 0, 0, -1, Nothing)
	whys(t, setOf(0, 1, 2), others, 0, -1, Busy)
	whys(t, setOf(0, 1, 2), all, every, -1, Busy)
	whys(t, setOf(0, 1), others, setOf(0), 0, Busy)
	whys(t, setOf(0, 1, 2), 0, every, -1, Busy)
	whys(t, setOf(0, 2), others, every, -1, Asleep)
}

func TestWhoSendsAndIsAsleep(t *testing.T) { // P9.1
	l := made(t, 4, row(4)...)
	// It is heard, though it is asleep.
	step(t, l, setOf(1), setOf(0, 2, 3), nil, Ear{1, Heard}, quiet, Ear{1, Heard}, quiet)
	// What comes to it finds it busy.
	step(t, l, setOf(0, 1), setOf(2, 3), nil, Ear{1, Busy}, Ear{0, Busy}, Ear{1, Heard}, quiet)
	// Nobody is awake.
	step(t, l, setOf(1, 2), 0, nil, Ear{1, Asleep}, Ear{2, Busy}, Ear{1, Busy}, Ear{2, Asleep})
	step(t, l, setOf(0, 1, 2, 3), 0, nil, Ear{1, Busy}, Ear{-1, Busy}, Ear{-1, Busy}, Ear{2, Busy})
}

func TestBitsBeyondTheNodes(t *testing.T) { // P9.1
	seed := spread(2)
	for _, n := range []int{1, 2, 5, 32, 63} {
		l := seed.web(t, n, 40)
		for range 20 {
			send, awake, lost := seed.set(2), seed.set(6), seed.lost(n, 2)
			within := uint64(1)<<n - 1
			want := plainStep(l, send&within, awake&within, lost)
			step(t, l, send, awake, lost, want...)
			step(t, l, send|every<<n, awake, lost, want...)
			step(t, l, send&within, awake|every<<n, lost, want...)
			step(t, l, send&within, awake&within, lost, want...)
			for i := range lost {
				lost[i] |= every << n
			}
			step(t, l, send, awake, lost, want...)
		}
		// Those beyond send to nobody, and nobody is asleep for them.
		step(t, l, every<<n, every, nil, slices.Repeat([]Ear{quiet}, n)...)
	}
	step(t, made(t, 2, row(2)...), setOf(0), every<<2, nil, quiet, Ear{0, Asleep})
}

func TestLostOfEachLength(t *testing.T) { // P9.1
	whole := made(t, 64, pairs(64)...)
	for n := range 70 {
		lost := slices.Repeat([]uint64{setOf(5)}, n)
		want := slices.Repeat([]Ear{{5, Heard}}, 64)
		for i := range min(n, 64) {
			want[i] = Ear{5, Lost}
		}
		want[5] = quiet
		step(t, whole, setOf(5), every, lost, want...)
	}
	l := made(t, 3, star(3)...)
	heard := []Ear{quiet, {0, Heard}, {0, Heard}}
	step(t, l, setOf(0), every, nil, heard...)
	step(t, l, setOf(0), every, []uint64{}, heard...)
	step(t, l, setOf(0), every, []uint64{1}, heard...)
	step(t, l, setOf(0), every, []uint64{1, 1}, quiet, Ear{0, Lost}, Ear{0, Heard})
	step(t, l, setOf(0), every, []uint64{1, 1, 1}, quiet, Ear{0, Lost}, Ear{0, Lost})
	step(t, l, setOf(0), every, []uint64{0, 0, 1}, quiet, Ear{0, Heard}, Ear{0, Lost})
	step(t, l, setOf(0), every, []uint64{0, 0, 0, every}, heard...)
}

func TestLostOfThoseThatDoNotSend(t *testing.T) { // P9.1
	l := made(t, 4, star(4)...)
	step(t, l, setOf(1), every, []uint64{every &^ setOf(1)}, Ear{1, Heard}, quiet, quiet, quiet)
	step(t, l, setOf(1), every, []uint64{setOf(1)}, Ear{1, Lost}, quiet, quiet, quiet)
	// Each node's set is of those of whom nothing comes to it, not of those to whom nothing comes of it.
	step(t, l, setOf(0), every, []uint64{every, 0, 0, 0}, quiet, Ear{0, Heard}, Ear{0, Heard}, Ear{0, Heard})
	step(t, l, setOf(0), every, []uint64{0, 0, setOf(0), setOf(1, 2, 3)}, quiet, Ear{0, Heard}, Ear{0, Lost}, Ear{0, Heard})
	// One who sends, but to whom the node has no link.
	step(t, l, setOf(1, 2), every, []uint64{0, 0, 0, every}, Ear{-1, Collided}, quiet, quiet, quiet)
	step(t, l, setOf(0, 3), every, []uint64{0, setOf(3)}, Ear{3, Busy}, Ear{0, Heard}, Ear{0, Heard}, Ear{0, Busy})
	step(t, l, 0, every, slices.Repeat([]uint64{every}, 4), quiet, quiet, quiet, quiet)
}

func TestLostOfTheLastNode(t *testing.T) { // P9.1
	l := made(t, 64, [2]int{62, 63}, [2]int{0, 63})
	want := slices.Repeat([]Ear{quiet}, 64)
	want[62], want[0] = Ear{63, Heard}, Ear{63, Heard}
	step(t, l, setOf(63), every, nil, want...)
	lost := make([]uint64, 64)
	lost[62] = setOf(63)
	want[62] = Ear{63, Lost}
	step(t, l, setOf(63), every, lost, want...)
	want = slices.Repeat([]Ear{quiet}, 64)
	want[63] = Ear{62, Lost}
	lost[62], lost[63] = 0, setOf(62)
	step(t, l, setOf(62), every, lost, want...)
}

func TestFromOfNoneOneAndSeveral(t *testing.T) { // P9.1
	seed := spread(3)
	for _, n := range []int{2, 5, 33, 64} {
		for _, often := range []int{5, 20, 60} {
			l := seed.web(t, n, often)
			for range 20 {
				send := seed.set(2)
				for i, ear := range Step(l, send, seed.set(4), seed.lost(n, 4)...) {
					list := come(l, i, send)
					want := -1
					if len(list) == 1 {
						want = list[0]
					}
					if ear.From != want || (ear.Why == Nothing) != (len(list) == 0) {
						t.Fatalf("node %d: %v of %v", i, ear, list)
					}
				}
			}
		}
	}
}

func TestAskOfEachNode(t *testing.T) { // P9.1
	l := made(t, 4, row(4)...)
	for from := range 4 {
		ears := Step(l, setOf(from), every)
		for other := range 4 {
			want := uint64(0)
			if other == from {
				want = l.Near(from)
			}
			ask(t, l, other, ears, want)
		}
	}
	// Two at a time, each heard by another one.
	ears := Step(l, setOf(0, 3), every)
	ask(t, l, 0, ears, setOf(1))
	ask(t, l, 3, ears, setOf(2))
	ask(t, l, 1, ears, 0)
	whole := made(t, 64, pairs(64)...)
	for from := range 64 {
		ask(t, whole, from, Step(whole, setOf(from), every), every&^setOf(from))
	}
}

func TestAskOfWhatThereIsNot(t *testing.T) { // P9.1
	for _, n := range []int{1, 2, 5, 63, 64} {
		l := made(t, n, pairs(n)...)
		for _, from := range append(none(), n, n+1) {
			ask(t, l, from, nil, 0)
			ask(t, l, from, slices.Repeat([]Ear{{from, Heard}}, n+3), 0)
			ask(t, l, from, slices.Repeat([]Ear{quiet}, n), 0)
			ask(t, l, from, slices.Repeat([]Ear{{-1, Heard}}, n), 0)
		}
	}
}

func TestAskOfEachCountOfEars(t *testing.T) { // P9.1
	whole := made(t, 64, pairs(64)...)
	for n := range 70 {
		ears := slices.Repeat([]Ear{{5, Heard}}, n)
		ask(t, whole, 5, ears, every>>max(64-n, 0)&^setOf(5))
	}
	l := made(t, 3, row(3)...)
	ears := []Ear{{1, Heard}, {1, Heard}, {1, Heard}, {1, Heard}, {1, Heard}}
	for n, want := range []uint64{0, setOf(0), setOf(0), setOf(0, 2), setOf(0, 2), setOf(0, 2)} {
		ask(t, l, 1, ears[:n], want)
	}
	ask(t, l, 1, []Ear{}, 0)
}

func TestAskOfEarsThatHearAnother(t *testing.T) { // P9.1
	l := made(t, 4, pairs(4)...)
	for _, from := range append(none(), 0, 1, 2, 3, 4) {
		ears := slices.Repeat([]Ear{{from, Heard}}, 4)
		for other := range 4 {
			want := uint64(0)
			if other == from {
				want = setOf(0, 1, 2, 3) &^ setOf(from)
			}
			ask(t, l, other, ears, want)
		}
	}
	ask(t, l, 0, []Ear{quiet, {0, Heard}, {3, Heard}, {-1, Heard}}, setOf(1))
	ask(t, l, 3, []Ear{{3, Heard}, {0, Heard}, {3, Heard}, quiet}, setOf(0, 2))
}

func TestAskOfEarsThatTellAnotherReason(t *testing.T) { // P9.1
	l := made(t, 3, star(3)...)
	for _, why := range []Why{Nothing, Busy, Asleep, Collided, Lost, -1, 6, 7, 257, 1<<32 + 1, math.MinInt, math.MaxInt} {
		ask(t, l, 0, slices.Repeat([]Ear{{0, why}}, 3), 0)
		ask(t, l, 0, []Ear{quiet, {0, why}, {0, Heard}}, setOf(2))
		ask(t, l, 0, []Ear{quiet, {0, Heard}, {0, why}}, setOf(1))
	}
	// As Step tells them: it sends, but isn't heard.
	ask(t, l, 0, Step(l, setOf(0, 1), every), setOf(2))
	ask(t, l, 0, Step(l, setOf(0), setOf(1)), setOf(1))
	ask(t, l, 0, Step(l, setOf(0), every, 0, setOf(0)), setOf(2))
	ask(t, l, 1, Step(l, setOf(1, 2), every), 0)
}

func TestAskOfEarsWithoutALink(t *testing.T) { // P9.1
	l := made(t, 5, [2]int{0, 1}, [2]int{1, 2})
	for from, want := range []uint64{setOf(1), setOf(0, 2), setOf(1), 0, 0} {
		// Its own ear, and those of nodes that aren't next to it, play no part.
		ask(t, l, from, slices.Repeat([]Ear{{from, Heard}}, 5), want)
	}
}

func TestAnswersAreNewMemory(t *testing.T) { // P9.1
	l := made(t, 3, row(3)...)
	want := []Ear{{1, Heard}, quiet, {1, Heard}}
	first, second := Step(l, setOf(1), every), Step(l, setOf(1), every)
	for i := range first {
		first[i] = Ear{77, 88}
	}
	first = append(first[:1], Ear{99, 99}, Ear{99, 99}, Ear{99, 99})
	if !slices.Equal(second, want) || len(first) != 4 {
		t.Fatalf("%v, not %v", second, want)
	}
	step(t, l, setOf(1), every, nil, want...)
	// What was answered stays as it was, whatever is set and asked behind it.
	l.Set(0, 1, false)
	step(t, l, setOf(1), every, nil, quiet, quiet, Ear{1, Heard})
	if !slices.Equal(second, want) {
		t.Fatalf("%v, not %v", second, want)
	}
}

func TestWhatWasPassedStaysAsItWas(t *testing.T) { // P9.1
	seed := spread(4)
	for _, n := range []int{1, 3, 64} {
		l := seed.web(t, n, 50)
		near := []uint64{}
		for i := range n {
			near = append(near, l.Near(i))
		}
		lost := seed.lost(n+4, 4)
		kept := slices.Clone(lost)
		ears := Step(l, seed.set(3), every, lost[:n]...)
		ears = append(ears, Ear{0, Heard}, Ear{1, Heard})
		told := slices.Clone(ears)
		for from := -1; from <= n; from++ {
			Ask(l, from, ears[:n]...)
			Ask(l, from, ears...)
		}
		if !slices.Equal(lost, kept) || !slices.Equal(ears, told) {
			t.Fatalf("%b, not %b; %v, not %v", lost, kept, ears, told)
		}
		for i := range n {
			if l.Near(i) != near[i] || l.Len() != n {
				t.Fatalf("Near(%d): %b, not %b", i, l.Near(i), near[i])
			}
		}
	}
}

func TestSpareRoomIsNotSeen(t *testing.T) { // P9.1
	l := made(t, 3, row(3)...)
	lost := []uint64{setOf(1), setOf(0, 2), setOf(1)}
	step(t, l, setOf(1), every, lost[:0], Ear{1, Heard}, quiet, Ear{1, Heard})
	step(t, l, setOf(1), every, lost[:2], Ear{1, Lost}, quiet, Ear{1, Heard})
	ears := []Ear{{1, Heard}, quiet, {1, Heard}}
	ask(t, l, 1, ears[:0], 0)
	ask(t, l, 1, ears[:2], setOf(0))
}

func TestTheSameIsAnsweredAgain(t *testing.T) { // P9.1
	seed := spread(5)
	l, other := seed.web(t, 9, 40), seed.web(t, 9, 40)
	send, awake, lost := seed.set(3), seed.set(6), seed.lost(9, 3)
	want := plainStep(l, send, awake, lost)
	for range 20 {
		// Steps of others, and other steps, play no part.
		plainly(t, other, seed.set(3), seed.set(6), seed.lost(9, 3)...)
		plainly(t, l, seed.set(3), seed.set(6), seed.lost(9, 3)...)
		step(t, l, send, awake, lost, want...)
	}
}

func TestAllStepsOfFewNodes(t *testing.T) { // P9.1
	for n := 1; n <= 3; n++ {
		all := uint64(1) << n
		for _, l := range webs(t, n) {
			for send := range all {
				for awake := range all {
					for losses := range uint64(1) << (n * n) {
						lost := []uint64{}
						for i := range n {
							lost = append(lost, losses>>(n*i)%all)
						}
						plainly(t, l, send, awake, lost...)
					}
				}
			}
		}
	}
}

func TestAllSendersOfFourNodes(t *testing.T) { // P9.1
	seed := spread(6)
	for _, l := range webs(t, 4) {
		for send := range uint64(16) {
			for awake := range uint64(16) {
				plainly(t, l, send, awake)
				plainly(t, l, send, awake, every, every, every, every)
				plainly(t, l, send, awake, seed.lost(seed.below(6), 1+seed.below(7))...)
				plainly(t, l, send, awake, seed.lost(4, 4)...)
			}
		}
	}
}

func TestAskOfAllEarsOfFewNodes(t *testing.T) { // P9.1
	ears := []Ear{}
	for from := -1; from <= 3; from++ {
		for why := Nothing; why <= Lost; why++ {
			ears = append(ears, Ear{from, why})
		}
	}
	for _, l := range webs(t, 3) {
		for _, first := range ears {
			for _, second := range ears {
				for _, third := range ears {
					list := []Ear{first, second, third}
					for from := -1; from <= 3; from++ {
						ask(t, l, from, list, plainAsk(l, from, list))
					}
				}
			}
		}
	}
}

func TestManyNodes(t *testing.T) { // P9.1
	seed := spread(7)
	for _, n := range []int{5, 31, 32, 33, 63, 64} {
		for _, often := range []int{0, 2, 5, 20, 100} {
			l := seed.web(t, n, often)
			for senders := range 9 {
				plainly(t, l, seed.set(senders), seed.set(6), seed.lost(seed.below(n+3), 3)...)
				plainly(t, l, seed.set(senders)&seed.set(2), every, seed.lost(n, 4)...)
			}
			for from := range n {
				plainly(t, l, setOf(from), seed.set(7), seed.lost(n, 2)...)
			}
		}
	}
}

// hearsOne fails, unless who hears has a link to one that sends, and hears that one.
func hearsOne(t *testing.T, l *links.Links, send, awake uint64, lost ...uint64) {
	t.Helper()
	for i, ear := range Step(l, send, awake, lost...) {
		if ear.Why != Heard {
			continue
		}
		if !l.Has(i, ear.From) || !of(ear.From, send) || of(i, send) || !of(i, awake) {
			t.Fatalf("Step(%b, %b, %b): %d has %v", send, awake, lost, i, ear)
		}
		if i < len(lost) && of(ear.From, lost[i]) {
			t.Fatalf("Step(%b, %b, %b): %d has %v, which is lost", send, awake, lost, i, ear)
		}
	}
}

func TestWhoHearsHearsOneThatSends(t *testing.T) { // P9.2
	seed := spread(8)
	for n := 1; n <= 4; n++ {
		for _, l := range webs(t, n) {
			for send := range uint64(2) << n {
				for awake := range uint64(2) << n {
					hearsOne(t, l, send, awake)
					hearsOne(t, l, send, awake, seed.lost(n, 3)...)
				}
			}
		}
	}
	for _, n := range []int{20, 63, 64} {
		for _, often := range []int{1, 5, 20, 100} {
			l := seed.web(t, n, often)
			for senders := range 9 {
				hearsOne(t, l, seed.set(senders), seed.set(6), seed.lost(n, 2)...)
			}
		}
	}
}

// heardByAll fails, unless the one that sends is heard by all that are awake and have a link to it, and by nobody else.
func heardByAll(t *testing.T, l *links.Links, from int, awake uint64, lost ...uint64) {
	t.Helper()
	ears := Step(l, setOf(from), awake, lost...)
	for i, ear := range ears {
		if hears := l.Has(i, from) && of(i, awake); hears != (ear == Ear{from, Heard}) {
			t.Fatalf("Step(%b, %b): %d has %v", setOf(from), awake, i, ear)
		}
	}
	ask(t, l, from, ears, l.Near(from)&awake)
}

func TestOneThatSendsIsHeardByAll(t *testing.T) { // P9.2
	seed := spread(9)
	for n := 1; n <= 4; n++ {
		for _, l := range webs(t, n) {
			for awake := range uint64(2) << n {
				for from := range n {
					heardByAll(t, l, from, awake)
					heardByAll(t, l, from, awake, make([]uint64, n)...)
					// What is lost of others isn't lost of this one.
					heardByAll(t, l, from, awake, slices.Repeat([]uint64{every &^ setOf(from)}, n)...)
				}
			}
		}
	}
	for _, n := range []int{20, 63, 64} {
		for _, often := range []int{1, 5, 20, 100} {
			l := seed.web(t, n, often)
			for from := range n {
				heardByAll(t, l, from, every)
				heardByAll(t, l, from, seed.set(5))
				heardByAll(t, l, from, 0)
			}
		}
	}
}
