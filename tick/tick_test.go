package tick

import (
	"math"
	"testing"

	"angelus/api"
)

const around = 1 << 32

// made is a clock of a drift that can be.
func made(t *testing.T, drift int) *Clock {
	t.Helper()
	c, code := New(drift)
	if c == nil || code != api.OK {
		t.Fatalf("New(%d): %v, %d", drift, c, code)
	}
	return c
}

// laid is a clock of a drift whose time is told.
func laid(t *testing.T, drift, now int) *Clock {
	t.Helper()
	c := made(t, drift)
	c.now = now
	return c
}

// shows fails, unless the time is that, and the counter its rest.
func shows(t *testing.T, c *Clock, now int) {
	t.Helper()
	if c.Now() != now || int64(c.Counter()) != int64(now)%around {
		t.Fatalf("counter %d, time %d, not %d", c.Counter(), c.Now(), now)
	}
}

// goes fails, unless a step answers that, and the time is that behind it.
func goes(t *testing.T, c *Clock, ticks int, code api.Errno, now int) {
	t.Helper()
	if got := c.Go(ticks); got != code {
		t.Fatalf("Go(%d) to %d: %d, not %d", ticks, now, got, code)
	}
	shows(t, c, now)
}

// raws are counters to begin with: small and great ones, and those from which a step, or its edge, goes round.
func raws() []uint32 {
	return []uint32{0, 1, 2, 999, 1000, 65535, 65536, 123456789, 1<<31 - 1000, 1<<31 - 1, 1 << 31, 1<<31 + 1, 3 << 30, around - 1011, around - 1010, around - 1001, around - 1000, around - 999, around - 990, around - 989, around - 2, around - 1}
}

// strays are ticks that no clock's step has.
func strays() []int {
	return []int{math.MinInt, math.MinInt + 1, math.MinInt + 999, math.MinInt + 1000, math.MinInt + 1010, math.MinInt + 1011, math.MinInt32, -around + 1000, -around, -1010, -1001, -1000, -999, -990, -10, -1, 0, 1, 10, 11, 100, 500, 988, 989, 1011, 1012, 2000, 10000, 65536 + 1000, math.MaxInt32, around - 1, around, around + 1000, 5*around + 1000, api.MaxTime, api.MaxTime + 1000, math.MaxInt - 1000, math.MaxInt - 1, math.MaxInt}
}

// spread is a row of numbers without a rule, the same in each run.
type spread uint32

// below answers the next one, from 0 on.
func (s *spread) below(n int) int {
	*s = *s*1664525 + 1013904223
	return int(*s>>8) % n
}

// ticks answers ones that fit a drift.
func (s *spread) ticks(drift int) int {
	return api.Slot - drift + s.below(2*drift+1)
}

func TestNewOfAllDrifts(t *testing.T) { // P6.1
	for drift := range 11 {
		shows(t, made(t, drift), 0)
	}
	for _, drift := range []int{math.MinInt, math.MinInt + 1, math.MinInt + 5, math.MinInt32, -around, -around + 5, -1000, -11, -10, -2, -1, 11, 12, 20, 255, 256, 261, 1000, 65536, 65541, math.MaxInt32, around, around + 5, math.MaxInt - 5, math.MaxInt - 1, math.MaxInt} {
		if c, code := New(drift); c != nil || code != api.ErrArg {
			t.Errorf("New(%d): %v, %d", drift, c, code)
		}
	}
}

func TestANilClock(t *testing.T) { // P6.1
	var c *Clock
	for _, ticks := range append(strays(), 990, 997, 999, 1000, 1001, 1003, 1010) {
		for _, raw := range raws() {
			c.Boot(raw)
			if c.Fits(ticks) || c.Go(ticks) != api.ErrNil || c.Counter() != 0 || c.Now() != 0 {
				t.Fatalf("%d, %d: %v, %d, %d, %d", raw, ticks, c.Fits(ticks), c.Go(ticks), c.Counter(), c.Now())
			}
		}
	}
}

func TestBoot(t *testing.T) { // P6.1
	for _, raw := range raws() {
		c := made(t, 5)
		c.Boot(raw)
		shows(t, c, int(raw))
		// The same one again, others, and the same behind them.
		c.Boot(raw)
		shows(t, c, int(raw))
		for _, other := range raws() {
			c.Boot(other)
			shows(t, c, int(other))
		}
		c.Boot(raw)
		shows(t, c, int(raw))
	}
}

func TestBootBehindSteps(t *testing.T) { // P6.1
	c := made(t, 10)
	for _, raw := range raws() {
		before := c.Now()
		goes(t, c, 990, api.OK, before+990)
		goes(t, c, 1010, api.OK, before+2000)
		c.Boot(raw)
		shows(t, c, int(raw))
		goes(t, c, 1000, api.OK, int(raw)+1000)
		// Nothing is left of what was refused, either.
		goes(t, c, 1011, api.ErrArg, int(raw)+1000)
		c.Boot(raw)
		shows(t, c, int(raw))
	}
	// From times that have gone round, and from the greatest.
	for _, now := range []int{around, 7*around + 5, api.MaxTime - 1, api.MaxTime} {
		for _, raw := range raws() {
			c := laid(t, 10, now)
			c.Boot(raw)
			shows(t, c, int(raw))
			goes(t, c, 1000, api.OK, int(raw)+1000)
		}
	}
}

func TestTheDriftOutlastsAllCalls(t *testing.T) { // P6.1
	c := made(t, 3)
	for _, raw := range raws() {
		c.Boot(raw)
		goes(t, c, 996, api.ErrArg, int(raw))
		goes(t, c, 997, api.OK, int(raw)+997)
		goes(t, c, 1004, api.ErrArg, int(raw)+997)
		goes(t, c, 1003, api.OK, int(raw)+2000)
	}
}

func TestFitsAtTheEdges(t *testing.T) { // P6.1
	for drift := range 11 {
		for _, now := range []int{0, around - 1, around, api.MaxTime} {
			c := laid(t, drift, now)
			for ticks := range 2500 {
				want := ticks >= 1000-drift && ticks <= 1000+drift
				if got := c.Fits(ticks); got != want {
					t.Fatalf("drift %d at %d: Fits(%d): %v", drift, now, ticks, got)
				}
			}
			for _, ticks := range strays() {
				if c.Fits(ticks) {
					t.Fatalf("drift %d at %d: Fits(%d)", drift, now, ticks)
				}
			}
			// It is asked, and nothing goes by.
			shows(t, c, now)
		}
	}
}

func TestGoAtTheEdges(t *testing.T) { // P6.1
	for drift := range 11 {
		c, now := made(t, drift), 0
		for ticks := range 2500 {
			if ticks < 1000-drift || ticks > 1000+drift {
				goes(t, c, ticks, api.ErrArg, now)
				continue
			}
			now += ticks
			goes(t, c, ticks, api.OK, now)
		}
		for _, ticks := range strays() {
			goes(t, c, ticks, api.ErrArg, now)
		}
	}
}

func TestAStepFromEveryCounter(t *testing.T) { // P6.1
	for _, raw := range raws() {
		for ticks := 990; ticks <= 1010; ticks++ {
			c := made(t, 10)
			c.Boot(raw)
			goes(t, c, ticks, api.OK, int(raw)+ticks)
		}
	}
}

func TestTheChaptersExample(t *testing.T) { // P6.1
	c := made(t, 0)
	c.Boot(1<<32 - 1)
	if code := c.Go(1000); code != api.OK || c.Counter() != 999 || c.Now() != 1<<32+999 {
		t.Errorf("%d, %d, %d", code, c.Counter(), c.Now())
	}
}

func TestTheCounterGoesRound(t *testing.T) { // P6.1, P6.2
	// So near ahead of the first round's end, of later ones, and of the last one's.
	for _, rounds := range []int{1, 2, 3, 1000, api.MaxTime/around - 1} {
		for before := 1; before <= 1010; before++ {
			c := laid(t, 10, rounds*around-before)
			goes(t, c, 1010, api.OK, rounds*around-before+1010)
			if c.Counter() != uint32(1010-before) {
				t.Fatalf("%d ticks ahead of round %d: %d", before, rounds, c.Counter())
			}
		}
	}
}

func TestTheCounterGoesRoundAgainAndAgain(t *testing.T) { // P6.1, P6.2
	c, now, turns := made(t, 10), 1<<32-1, 0
	c.Boot(1<<32 - 1)
	for now < 3*around+5000 {
		before := c.Counter()
		now += 1010
		if code := c.Go(1010); code != api.OK || c.Now() != now || int(c.Counter()) != now%around {
			t.Fatalf("%d: %d, %d, not %d", code, c.Counter(), c.Now(), now)
		}
		if c.Counter() < before {
			turns++
		}
	}
	if turns != 3 {
		t.Errorf("gone round %d times, not 3", turns)
	}
}

func TestTheGreatestTime(t *testing.T) { // P6.1
	for drift := range 11 {
		for ticks := 1000 - drift; ticks <= 1000+drift; ticks++ {
			goes(t, laid(t, drift, api.MaxTime-ticks-1), ticks, api.OK, api.MaxTime-1)
			goes(t, laid(t, drift, api.MaxTime-ticks), ticks, api.OK, api.MaxTime)
			for _, beyond := range []int{1, 2, 500, ticks - 1, ticks} {
				goes(t, laid(t, drift, api.MaxTime-ticks+beyond), ticks, api.ErrOver, api.MaxTime-ticks+beyond)
			}
		}
	}
}

func TestBehindARefusalALesserStepIsMade(t *testing.T) { // P6.1
	c := laid(t, 10, api.MaxTime-995)
	for range 3 {
		goes(t, c, 1010, api.ErrOver, api.MaxTime-995)
		goes(t, c, 996, api.ErrOver, api.MaxTime-995)
	}
	goes(t, c, 995, api.OK, api.MaxTime)
	goes(t, c, 990, api.ErrOver, api.MaxTime)
	c.Boot(7)
	goes(t, c, 1010, api.OK, 1017)
}

func TestWhatDoesntFitIsToldFirst(t *testing.T) { // P6.1
	for drift := range 11 {
		c := laid(t, drift, api.MaxTime)
		for _, ticks := range append(strays(), 999-drift, 1001+drift) {
			goes(t, c, ticks, api.ErrArg, api.MaxTime)
		}
		goes(t, c, 1000, api.ErrOver, api.MaxTime)
	}
}

func TestClocksKnowNothingOfOneAnother(t *testing.T) { // P6.1
	one, other := made(t, 0), made(t, 10)
	one.Boot(5)
	shows(t, other, 0)
	goes(t, other, 1010, api.OK, 1010)
	shows(t, one, 5)
	goes(t, one, 1010, api.ErrArg, 5)
	goes(t, one, 1000, api.OK, 1005)
	other.Boot(1 << 31)
	shows(t, one, 1005)
	shows(t, other, 1<<31)
}

// likeness is a clock as the chapter tells it: a counter and a time, each for itself.
type likeness struct{ drift, counter, now int }

// boot is what Boot is to do.
func (l *likeness) boot(raw uint32) { l.counter, l.now = int(raw), int(raw) }

// step is what Go is to do, and to answer.
func (l *likeness) step(ticks int) api.Errno {
	switch {
	case ticks < 1000-l.drift || ticks > 1000+l.drift:
		return api.ErrArg
	case l.now+ticks > api.MaxTime:
		return api.ErrOver
	}
	l.counter, l.now = (l.counter+ticks)%around, l.now+ticks
	return api.OK
}

// held fails, unless a clock shows what its likeness does.
func held(t *testing.T, c *Clock, l likeness) {
	t.Helper()
	if int(c.Counter()) != l.counter || c.Now() != l.now || c.Now()%around != int(c.Counter()) {
		t.Fatalf("%d, %d, not %+v", c.Counter(), c.Now(), l)
	}
}

func TestCallsInEveryOrder(t *testing.T) { // P6.1, P6.2
	seed := spread(6)
	for drift := range 11 {
		for _, now := range []int{0, around - 20000, 9*around - 20000, api.MaxTime - 20000} {
			c, l := laid(t, drift, now), likeness{drift, now % around, now}
			for range 2000 {
				before := c.Now()
				ticks := 985 + seed.below(31)
				switch seed.below(40) {
				case 0:
					raw := raws()[seed.below(len(raws()))]
					c.Boot(raw)
					l.boot(raw)
					held(t, c, l)
					continue
				case 1:
					ticks = strays()[seed.below(len(strays()))]
				}
				fits := c.Fits(ticks)
				held(t, c, l)
				got, want := c.Go(ticks), l.step(ticks)
				if got != want || fits != (want != api.ErrArg) {
					t.Fatalf("%d ticks at %d, drift %d: %v, %d, not %d", ticks, before, drift, fits, got, want)
				}
				held(t, c, l)
				// But by Boot time never goes back, and stands where a step is refused alone.
				if c.Now() < before || (c.Now() == before) != (want != api.OK) {
					t.Fatalf("from %d to %d: %d", before, c.Now(), want)
				}
			}
		}
	}
}

func TestTwoClocksPartByTheirDriftsAtMost(t *testing.T) { // P6.2
	seed := spread(26)
	for drift := range 11 {
		one, other := made(t, drift), made(t, drift)
		one.Boot(around - 1)
		other.Boot(12345)
		for n := 1; n <= 3000; n++ {
			if a, b := one.Go(seed.ticks(drift)), other.Go(seed.ticks(drift)); a != api.OK || b != api.OK {
				t.Fatalf("drift %d: %d, %d", drift, a, b)
			}
			// What is refused is no step, and lets nothing go by.
			one.Go(1001 + drift)
			other.Go(999 - drift)
			apart := one.Now() - (around - 1) - (other.Now() - 12345)
			if apart > 2*n*drift || apart < -2*n*drift {
				t.Fatalf("drift %d, %d steps: %d apart", drift, n, apart)
			}
		}
	}
}

func TestTwoClocksPartAsFarAsTheyMay(t *testing.T) { // P6.2
	for drift := range 11 {
		fast, slow := made(t, drift), made(t, drift)
		for n := 1; n <= 3000; n++ {
			goes(t, fast, 1000+drift, api.OK, n*(1000+drift))
			goes(t, slow, 1000-drift, api.OK, n*(1000-drift))
			if apart := fast.Now() - slow.Now(); apart != 2*n*drift {
				t.Fatalf("drift %d, %d steps: %d apart", drift, n, apart)
			}
		}
	}
}
