package wrap

import (
	"math"
	"testing"

	"angelus/api"
)

const (
	around32 = 1 << 32
	around16 = 1 << 16
)

// counters are those at which a difference changes its sign or goes round, and some between.
func counters() []uint32 {
	list := []uint32{}
	for _, n := range []int{0, 1 << 16, 1 << 30, 1 << 31, 3 << 30} {
		for near := -2; near <= 2; near++ {
			list = append(list, uint32(n+near))
		}
	}
	seed := uint32(0x9e3779b9)
	for range 60 {
		seed = seed*1664525 + 1013904223
		list = append(list, seed)
	}
	return list
}

// sequences are the numbers against which all others are held.
func sequences() []uint16 {
	return []uint16{0, 1, 2, 77, 255, 256, 12345, 32766, 32767, 32768, 32769, 50000, 65534, 65535}
}

// times are those from which counters are extended.
func times() []int {
	list := []int{}
	for _, n := range []int{0, 1000, 1 << 31, around32, 3 * around32 / 2, 7 * around32, 12345678901234, api.MaxTime - 2*around32, api.MaxTime - around32, api.MaxTime} {
		for near := -2; near <= 2; near++ {
			if time := n + near; time >= 0 && time <= api.MaxTime {
				list = append(list, time)
			}
		}
	}
	return list
}

// rest is what is left of a number by another one, from 0 on.
func rest(n, by int) int { return (n%by + by) % by }

func TestDiffAtTheEdges(t *testing.T) { // P2.1
	for _, c := range []struct {
		a, b uint32
		want int
	}{
		{0, 0, 0}, {5, 3, 2}, {3, 5, -2}, {1, 1<<32 - 1, 2}, {1<<32 - 1, 1, -2}, {0, 1<<32 - 1, 1}, {1<<32 - 1, 0, -1}, {1<<32 - 1, 1<<32 - 1, 0},
		// The greatest difference, and the least one, which is the same both ways.
		{1<<31 - 1, 0, 1<<31 - 1}, {0, 1<<31 - 1, -1<<31 + 1}, {1 << 31, 0, -1 << 31}, {0, 1 << 31, -1 << 31}, {1<<31 + 1, 0, -1<<31 + 1}, {0, 1<<31 + 1, 1<<31 - 1},
		{1<<31 + 6, 7, 1<<31 - 1}, {1<<31 + 7, 7, -1 << 31}, {7, 1<<31 + 7, -1 << 31}, {1<<31 + 8, 7, -1<<31 + 1},
		// The same on both sides of the counter's end.
		{1<<31 - 6, 1<<32 - 5, 1<<31 - 1}, {1<<31 - 5, 1<<32 - 5, -1 << 31}, {1<<31 - 4, 1<<32 - 5, -1<<31 + 1},
	} {
		if got := Diff(c.a, c.b); got != c.want {
			t.Errorf("Diff(%d, %d): %d, not %d", c.a, c.b, got, c.want)
		}
	}
}

func TestDiffOfAllNumbers(t *testing.T) { // P2.1
	for _, a := range counters() {
		for _, b := range counters() {
			got := Diff(a, b)
			if got < -1<<31 || got >= 1<<31 || rest(got-(int(a)-int(b)), around32) != 0 {
				t.Fatalf("Diff(%d, %d): %d", a, b, got)
			}
		}
	}
}

func TestNewerAtTheEdges(t *testing.T) { // P2.1
	for _, c := range []struct {
		a, b uint16
		want bool
	}{
		{1, 0, true}, {0, 1, false}, {9, 7, true}, {7, 9, false},
		{0, 0, false}, {7, 7, false}, {32768, 32768, false}, {65535, 65535, false},
		{0, 65535, true}, {65535, 0, false}, {2, 65530, true}, {65530, 2, false},
		{32767, 0, true}, {0, 32767, false}, {32768, 0, false}, {0, 32768, false}, {32769, 0, false}, {0, 32769, true},
		{32766, 65535, true}, {65535, 32766, false}, {32767, 65535, false}, {65535, 32767, false}, {32768, 65535, false}, {65535, 32768, true},
		{32774, 7, true}, {32775, 7, false}, {7, 32775, false}, {32776, 7, false},
	} {
		if got := Newer(c.a, c.b); got != c.want {
			t.Errorf("Newer(%d, %d): %v", c.a, c.b, got)
		}
	}
}

func TestNewerOfAllNumbers(t *testing.T) { // P2.1
	for _, b := range sequences() {
		for a := range around16 {
			by := rest(a-int(b), around16)
			if got, want := Newer(uint16(a), b), by >= 1 && by <= 1<<15-1; got != want {
				t.Fatalf("Newer(%d, %d): %v", a, b, got)
			}
		}
	}
}

func TestNextOfAllNumbers(t *testing.T) { // P2.1
	for a := range around16 {
		want := a + 1
		if a == 65535 {
			want = 0
		}
		if got := Next(uint16(a)); int(got) != want {
			t.Fatalf("Next(%d): %d, not %d", a, got, want)
		}
	}
}

func TestExtendAtTheEdges(t *testing.T) { // P2.1
	for _, c := range []struct {
		last int
		raw  uint32
		want int
		ok   bool
	}{
		{0, 0, 0, true}, {0, 5, 5, true}, {5, 5, 5, true}, {0, 1<<32 - 1, 1<<32 - 1, true},
		// A counter that has gone round.
		{5, 4, 1<<32 + 4, true}, {5, 0, 1 << 32, true}, {1, 0, 1 << 32, true}, {1<<32 - 1, 5, 1<<32 + 5, true}, {1<<32 - 1, 0, 1 << 32, true}, {1<<32 - 1, 1<<32 - 2, 1<<33 - 2, true},
		{1 << 32, 0, 1 << 32, true}, {1<<32 + 1, 0, 1 << 33, true}, {7 << 32, 9, 7<<32 + 9, true}, {7<<32 + 10, 9, 8<<32 + 9, true}, {3<<31 + 1, 1 << 31, 5 << 31, true},
		// The greatest time, and counters that come to no time below it.
		{api.MaxTime, 0, api.MaxTime, true}, {api.MaxTime, 1, 0, false}, {api.MaxTime, 1<<32 - 1, 0, false},
		{api.MaxTime - 1, 1<<32 - 1, api.MaxTime - 1, true}, {api.MaxTime - 1, 0, api.MaxTime, true}, {api.MaxTime - 1, 1, 0, false}, {api.MaxTime - 1, 1<<32 - 2, 0, false},
		{api.MaxTime - around32, 0, api.MaxTime - around32, true}, {api.MaxTime - around32, 1<<32 - 1, api.MaxTime - 1, true},
		{api.MaxTime - around32 + 1, 0, api.MaxTime, true}, {api.MaxTime - around32 + 1, 1, api.MaxTime - around32 + 1, true}, {api.MaxTime - around32 + 2, 1, 0, false},
		// Times that can't be.
		{-1, 0, 0, false}, {-1, 1<<32 - 1, 0, false}, {-around32, 0, 0, false}, {math.MinInt, 0, 0, false}, {math.MinInt, 7, 0, false},
		{api.MaxTime + 1, 0, 0, false}, {api.MaxTime + 1, 1, 0, false}, {api.MaxTime + around32, 0, 0, false}, {math.MaxInt, 1<<32 - 1, 0, false}, {math.MaxInt, 0, 0, false},
	} {
		if got, ok := Extend(c.last, c.raw); got != c.want || ok != c.ok {
			t.Errorf("Extend(%d, %d): %d, %v, not %d, %v", c.last, c.raw, got, ok, c.want, c.ok)
		}
	}
}

// least is what Extend is to answer from a time that can be: the counter, so many times round that it isn't behind that time.
func least(last int, raw uint32) (int, bool) {
	time := last/around32*around32 + int(raw)
	if time < last {
		time += around32
	}
	if time > api.MaxTime {
		return 0, false
	}
	return time, true
}

func TestExtendOfAllNumbers(t *testing.T) { // P2.1
	for _, last := range times() {
		for _, raw := range counters() {
			want, is := least(last, raw)
			if got, ok := Extend(last, raw); got != want || ok != is {
				t.Fatalf("Extend(%d, %d): %d, %v, not %d, %v", last, raw, got, ok, want, is)
			}
		}
	}
}

func TestOneOfTwoIsNewer(t *testing.T) { // P2.2
	for _, b := range sequences() {
		for n := range around16 {
			a := uint16(n)
			there, back := Newer(a, b), Newer(b, a)
			if neither := a == b || a == b+1<<15; neither && (there || back) || !neither && there == back {
				t.Fatalf("of %d and %d: %v, %v", a, b, there, back)
			}
		}
	}
}

func TestTheNextOneIsNewer(t *testing.T) { // P2.2
	for n := range around16 {
		a := uint16(n)
		if !Newer(Next(a), a) || Newer(a, Next(a)) {
			t.Fatalf("%d, and %d behind it", a, Next(a))
		}
	}
}

func TestACounterIsExtendedToTheTimeThatItShows(t *testing.T) { // P2.2
	for _, last := range times() {
		for _, gone := range []int{0, 1, 1000, 1<<31 - 1, 1 << 31, 1<<31 + 1, around32 - 2, around32 - 1} {
			time := last + gone
			if time > api.MaxTime {
				continue
			}
			if got, ok := Extend(last, uint32(time)); got != time || !ok {
				t.Fatalf("Extend(%d, %d): %d, %v, not %d", last, uint32(time), got, ok, time)
			}
		}
	}
}

func TestACounterIsFollowedThroughAllTime(t *testing.T) { // P2.2
	// Nearly once round between two readings, and an odd number, so that the counter is read all over.
	const pause = around32 - 9973
	last := 0
	for time := 0; time <= api.MaxTime; time += pause {
		got, ok := Extend(last, uint32(time))
		if got != time || !ok {
			t.Fatalf("Extend(%d, %d): %d, %v, not %d", last, uint32(time), got, ok, time)
		}
		last = got
	}
}
