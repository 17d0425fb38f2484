package duty

import (
	"math"
	"math/big"
	"slices"
	"testing"
)

const (
	least    = math.MinInt
	greatest = math.MaxInt
)

// strays are numbers that no field of a plan may be.
func strays() []int {
	return []int{least, least + 1, least + 4, math.MinInt32, -1 << 32, 4 - 1<<32, -65536, -1000, -256, -64, -4, -2, -1, 65, 66, 100, 128, 255, 256, 256 + 4, 1000, 65536, 65536 + 4, math.MaxInt32, 1 << 32, 1<<32 + 4, 1 << 61, 1<<61 + 4, 1 << 62, greatest - 4, greatest - 1, greatest}
}

// some are numbers from 0 to a round's steps, at which calls are tried where all would be too many.
func some(round int) []int {
	list := []int{0, 1, 2, round / 2, round - 2, round - 1, round}
	slices.Sort(list)
	list = slices.Compact(list)
	return slices.DeleteFunc(list, func(n int) bool { return n < 0 || n > round })
}

// plans are plans that can be, of many rounds, at the edges and in the middle of what is open and own.
func plans() []Plan {
	var list []Plan
	for _, round := range []int{1, 2, 3, 4, 5, 7, 8, 10, 16, 31, 32, 33, 50, 63, 64} {
		for _, open := range some(round) {
			for _, own := range some(round) {
				if open > 0 && own < round {
					list = append(list, Plan{round, open, own})
				}
			}
		}
	}
	return list
}

// none are plans that can't be: one field, or several, are what they may not be, at edges of all kinds.
func none() []Plan {
	list := []Plan{
		{}, {0, 1, 0}, {0, 0, 0}, {-1, -1, -2}, {0, 0, -1}, {-4, 1, 0}, {65, 1, 0}, {65, 65, 64}, {65, 64, 63}, {66, 66, 65},
		{4, 0, 0}, {4, 5, 0}, {4, 1, 4}, {4, 1, -1}, {4, -1, 0}, {1, 0, 0}, {1, 2, 0}, {1, 1, 1}, {1, 1, -1}, {2, 1, 2}, {2, 3, 1},
		{64, 65, 0}, {64, 0, 0}, {64, 64, 64}, {64, 1, 64}, {64, 64, -1}, {64, 65, 64}, {63, 64, 0}, {63, 63, 63},
		// Rounds of which the ticks go round to 0, to less, and to what a round may have.
		{1 << 61, 1, 0}, {1 << 62, 1, 0}, {least, 1, 0}, {1<<61 + 4, 1, 0}, {-1<<61 + 4, 1, 3}, {greatest, 1, 0}, {greatest, greatest, greatest - 1}, {greatest, greatest, greatest}, {least, least, least},
	}
	for _, n := range strays() {
		list = append(list, Plan{n, 1, 0}, Plan{n, n, 0}, Plan{n, n, n - 1}, Plan{n, n, n}, Plan{4, n, 3}, Plan{4, 1, n}, Plan{4, n, n}, Plan{64, n, 0}, Plan{64, 64, n}, Plan{n, 4, 3})
	}
	return list
}

func TestGoodOfAllSmallPlans(t *testing.T) { // P11.1
	can := map[Plan]int{}
	for round := 1; round <= 64; round++ {
		for open := 1; open <= round; open++ {
			for own := range round {
				can[Plan{round, open, own}]++
			}
		}
	}
	for round := -3; round <= 68; round++ {
		for open := -3; open <= 69; open++ {
			for own := -3; own <= 69; own++ {
				p := Plan{round, open, own}
				if p.Good() != (can[p] == 1) {
					t.Fatalf("%v: %v", p, p.Good())
				}
			}
		}
	}
}

func TestGoodAtTheEdges(t *testing.T) { // P11.1
	for _, p := range []Plan{{1, 1, 0}, {2, 1, 0}, {2, 2, 1}, {2, 1, 1}, {4, 1, 3}, {4, 4, 0}, {4, 4, 3}, {63, 63, 62}, {64, 1, 0}, {64, 1, 63}, {64, 64, 0}, {64, 64, 63}} {
		if !p.Good() {
			t.Errorf("%v can be", p)
		}
	}
	for _, p := range none() {
		if p.Good() {
			t.Errorf("%v can't be", p)
		}
	}
}

func TestAPlanIsAValue(t *testing.T) { // P11.1
	p := Plan{Round: 4, Open: 1, Own: 3}
	other := p
	other.Open, other.Own = 4, 0
	if p.Awake(2500, 0) || !other.Awake(2500, 0) || p.Mine(0) || !other.Mine(0) {
		t.Errorf("%v, %v", p, other)
	}
	if p != (Plan{4, 1, 3}) || other != (Plan{4, 4, 0}) {
		t.Errorf("%v, %v", p, other)
	}
}

func TestMineOfAllRounds(t *testing.T) { // P11.1
	for round := 1; round <= 64; round++ {
		for own := range round {
			// The steps that are the own ones, told by going on from one to the next.
			p, next := Plan{round, 1, own}, own
			for step := range 4*round + 2 {
				if p.Mine(step) != (step == next) {
					t.Fatalf("%v: %d: %v", p, step, p.Mine(step))
				}
				if step == next {
					next += round
				}
			}
			for step := 1; step <= 3*round; step++ {
				if p.Mine(-step) {
					t.Fatalf("%v: %d", p, -step)
				}
			}
		}
	}
}

func TestMineAtTheEdges(t *testing.T) { // P11.1
	for _, c := range []struct {
		p    Plan
		step int
		want bool
	}{
		{Plan{4, 1, 3}, 0, false}, {Plan{4, 1, 3}, 2, false}, {Plan{4, 1, 3}, 3, true}, {Plan{4, 1, 3}, 4, false}, {Plan{4, 1, 3}, 6, false}, {Plan{4, 1, 3}, 7, true}, {Plan{4, 1, 3}, 8, false},
		{Plan{4, 1, 3}, 4003, true}, {Plan{4, 1, 3}, 4002, false}, {Plan{4, 1, 3}, 4004, false}, {Plan{4, 4, 3}, 3, true}, {Plan{4, 4, 3}, 2, false},
		{Plan{4, 1, 0}, 0, true}, {Plan{4, 1, 0}, 1, false}, {Plan{4, 1, 0}, 4, true}, {Plan{4, 1, 0}, -4, false}, {Plan{4, 1, 0}, -1, false}, {Plan{4, 1, 0}, least, false},
		{Plan{1, 1, 0}, 0, true}, {Plan{1, 1, 0}, 1, true}, {Plan{1, 1, 0}, greatest, true}, {Plan{1, 1, 0}, -1, false}, {Plan{1, 1, 0}, least, false},
		{Plan{64, 1, 63}, 63, true}, {Plan{64, 1, 63}, 62, false}, {Plan{64, 1, 63}, 64, false}, {Plan{64, 1, 63}, 127, true}, {Plan{64, 1, 63}, -1, false}, {Plan{64, 1, 63}, -65, false},
		// 2^63 has the rest 0 by 4 and 64, and 2 by 3.
		{Plan{4, 1, 3}, greatest, true}, {Plan{4, 1, 3}, greatest - 4, true}, {Plan{4, 1, 3}, greatest - 1, false}, {Plan{4, 1, 0}, greatest, false}, {Plan{4, 1, 0}, greatest - 3, true},
		{Plan{64, 1, 63}, greatest, true}, {Plan{64, 1, 62}, greatest, false}, {Plan{64, 1, 62}, greatest - 1, true}, {Plan{3, 1, 1}, greatest, true}, {Plan{3, 1, 2}, greatest, false},
		// The language's rests of steps below 0 are -1, or 0, but these are nobody's own.
		{Plan{4, 1, 3}, -1, false}, {Plan{4, 1, 3}, -5, false}, {Plan{4, 1, 3}, -3, false}, {Plan{4, 1, 3}, least, false}, {Plan{4, 1, 0}, least + 4, false}, {Plan{4, 1, 1}, least + 1, false}, {Plan{3, 1, 1}, least, false},
		{Plan{4, 1, 3}, 1<<32 + 3, true}, {Plan{4, 1, 3}, 1 << 32, false}, {Plan{7, 1, 3}, 1<<32 + 3, false}, {Plan{7, 1, 0}, 1<<32 + 3, true},
	} {
		if got := c.p.Mine(c.step); got != c.want {
			t.Errorf("%v: %d: %v", c.p, c.step, got)
		}
	}
}

func TestMineOfGreatSteps(t *testing.T) { // P11.1
	for _, p := range plans() {
		for _, base := range []int{0, 1 << 16, 1 << 31, 1 << 32, 1 << 50, 1 << 62, greatest - 200} {
			for step := base; step <= base+130; step++ {
				rest := new(big.Int).Mod(big.NewInt(int64(step)), big.NewInt(int64(p.Round)))
				if p.Mine(step) != (rest.Int64() == int64(p.Own)) {
					t.Fatalf("%v: %d: %v", p, step, p.Mine(step))
				}
			}
		}
	}
}

func TestTicks(t *testing.T) { // P11.1
	for _, c := range [][2]int{{1, 1000}, {2, 2000}, {3, 3000}, {4, 4000}, {10, 10000}, {32, 32000}, {33, 33000}, {63, 63000}, {64, 64000}} {
		for _, open := range []int{1, c[0]} {
			for _, own := range []int{0, c[0] - 1} {
				if got := (Plan{c[0], open, own}).Ticks(); got != c[1] {
					t.Errorf("%d, %d, %d: %d, not %d", c[0], open, own, got, c[1])
				}
			}
		}
	}
	for round, want := 1, 1000; round <= 64; round, want = round+1, want+1000 {
		if got := (Plan{round, 1, 0}).Ticks(); got != want {
			t.Errorf("%d: %d, not %d", round, got, want)
		}
	}
}

func TestTicksOfPlansThatCannotBe(t *testing.T) { // P11.1
	// Nothing is promised of the answers, but that they come.
	for _, p := range none() {
		p.Ticks()
	}
}

// farTimes are times around the edges of a round, and of what is open, in rounds near 0, far ahead and far behind, and at the edges of the type.
func farTimes(p Plan) []int {
	ticks, open := 1000*p.Round, 1000*p.Open
	list := []int{least, least + 1, least + 999, least + 1000, greatest, greatest - 1, greatest - 999, greatest - 1000, 500, -500}
	for _, rounds := range []int{0, 1, 2, 1000, 1 << 31 / ticks, 1 << 32 / ticks, 1 << 50 / ticks, greatest/ticks - 1, -1, -2, -1000, -1 << 31 / ticks, -1 << 32 / ticks, -1 << 50 / ticks, least/ticks + 1} {
		first := rounds * ticks
		for _, phase := range []int{0, 1, 999, open / 2, open - 1, open, open + 1, (open + ticks) / 2, ticks - 1000, ticks - 2, ticks - 1, ticks, ticks + 1} {
			list = append(list, first+phase)
		}
		list = append(list, first-1)
	}
	return list
}

// phase is a time's rest by a round's ticks: big's Mod is from 0 on.
func phase(p Plan, time int) int {
	rest := big.NewInt(int64(time))
	return int(rest.Mod(rest, big.NewInt(int64(1000*p.Round))).Int64())
}

// wakes is what Awake is to answer at a phase, for a plan that can be, reckoned with numbers of any size.
func wakes(p Plan, phase, guard int) bool {
	if guard < 0 {
		return true
	}
	at := big.NewInt(int64(phase))
	end := big.NewInt(int64(1000 * p.Open))
	end.Add(end, big.NewInt(int64(guard)))
	again := big.NewInt(int64(1000 * p.Round))
	again.Sub(again, big.NewInt(int64(guard)))
	return at.Cmp(end) < 0 || at.Cmp(again) >= 0
}

// rests is what Rest is to answer at a phase, for a plan that can be.
func rests(p Plan, phase int) int {
	if phase < 1000*p.Open {
		return 0
	}
	return 1000*p.Round - phase
}

// guards are guards of all kinds, for a plan that can be, rising.
func guards(p Plan) []int {
	ticks, closed := 1000*p.Round, 1000*(p.Round-p.Open)
	list := []int{least, least + 1, math.MinInt32, -1 << 32, -ticks, -1000, -2, -1, 0, 1, 2, 10, 499, 500, 999, 1000, 1001, closed / 2, closed/2 + 1, closed - 1, closed, closed + 1, ticks - 1, ticks, ticks + 1, 2 * ticks, 65536, 1 << 31, 1 << 32, 1 << 50, 1 << 62, greatest - ticks, greatest - 1000*p.Open, greatest - 1000*p.Open + 1, greatest - 1000, greatest - 1, greatest}
	slices.Sort(list)
	return slices.Compact(list)
}

func TestAwakeAndRestOfManyPlans(t *testing.T) { // P11.1
	for _, p := range plans() {
		for _, time := range farTimes(p) {
			at := phase(p, time)
			if got, want := p.Rest(time), rests(p, at); got != want {
				t.Fatalf("%v: Rest(%d): %d, not %d", p, time, got, want)
			}
			for _, guard := range guards(p) {
				if got, want := p.Awake(time, guard), wakes(p, at, guard); got != want {
					t.Fatalf("%v: Awake(%d, %d): %v", p, time, guard, got)
				}
			}
		}
	}
}

func TestAwakeOfEachRoundAndOfAllThatIsOpen(t *testing.T) { // P11.1
	for round := 1; round <= 64; round++ {
		for open := 1; open <= round; open++ {
			p := Plan{round, open, 0}
			for _, time := range []int{0, 1000*open - 1, 1000 * open, 1000*open + 9, 1000*open + 10, 1000*round - 11, 1000*round - 10, 1000*round - 1, 1000 * round, -1, -10, -11, -1000 * round} {
				for _, guard := range []int{0, 10} {
					if got := p.Awake(time, guard); got != wakes(p, phase(p, time), guard) {
						t.Fatalf("%v: Awake(%d, %d): %v", p, time, guard, got)
					}
				}
				if got := p.Rest(time); got != rests(p, phase(p, time)) {
					t.Fatalf("%v: Rest(%d): %d", p, time, got)
				}
			}
		}
	}
}

func TestTheChaptersExample(t *testing.T) { // P11.1
	for own := range 4 {
		p := Plan{Round: 4, Open: 1, Own: own}
		for _, c := range []struct {
			time, guard int
			want        bool
		}{{999, 0, true}, {1000, 0, false}, {1009, 10, true}, {3990, 10, true}, {1010, 10, false}, {3989, 10, false}, {1009, 0, false}, {1009, 9, false}, {3990, 0, false}, {3990, 9, false}} {
			if got := p.Awake(c.time, c.guard); got != c.want {
				t.Errorf("%d: %v: %v", own, c, got)
			}
		}
	}
}

func TestAwakeAtTheEdges(t *testing.T) { // P11.1
	p := Plan{4, 1, 0}
	for _, c := range []struct {
		time, guard int
		want        bool
	}{
		{0, 0, true}, {500, 0, true}, {999, 0, true}, {1000, 0, false}, {3999, 0, false}, {4000, 0, true}, {4999, 0, true}, {5000, 0, false}, {7999, 0, false}, {8000, 0, true},
		{-1, 0, false}, {-3000, 0, false}, {-3001, 0, true}, {-4000, 0, true}, {-4001, 0, false}, {-7001, 0, true}, {-8000, 0, true},
		{1000, 1, true}, {1001, 1, false}, {3998, 1, false}, {3999, 1, true}, {-1, 1, true}, {-2, 1, false}, {-3000, 1, true}, {-2999, 1, false},
		// Closed are 3000 ticks; half of these from both sides leave none.
		{2499, 1499, false}, {2498, 1499, true}, {2500, 1499, false}, {2501, 1499, true}, {2499, 1500, true}, {2500, 1500, true}, {2500, 2999, true}, {2500, 3000, true}, {2500, 4000, true}, {2500, 4001, true}, {2500, 8000, true},
		{2500, -1, true}, {1000, -1, true}, {3999, -1000, true}, {2500, least, true}, {0, least, true}, {least, least, true}, {greatest, least, true},
		{2500, greatest, true}, {1000, greatest, true}, {3999, greatest, true}, {0, greatest, true}, {2500, greatest - 1000, true}, {2500, greatest - 999, true}, {2500, greatest - 4000, true},
		{1000 + 4000*(1<<50), 0, false}, {999 + 4000*(1<<50), 0, true}, {999 - 4000*(1<<50), 0, true}, {1000 - 4000*(1<<50), 0, false}, {3999 - 4000*(1<<50), 0, false}, {3999 - 4000*(1<<50), 1, true},
		// 2^63 has the rest 3808 by 4000: the phase of the least number is 192, that of the greatest 3807.
		{least, 0, true}, {least + 807, 0, true}, {least + 808, 0, false}, {least + 808, 1, true}, {least + 3807, 0, false}, {least + 3807, 1, true}, {least + 3808, 0, true}, {least, greatest, true}, {least + 2000, greatest, true},
		{greatest, 0, false}, {greatest, 192, false}, {greatest, 193, true}, {greatest - 2807, 0, false}, {greatest - 2807, 1, true}, {greatest - 2808, 0, true}, {greatest - 3807, 0, true}, {greatest - 3808, 0, false}, {greatest, greatest, true},
	} {
		if got := p.Awake(c.time, c.guard); got != c.want {
			t.Errorf("%v: %v", c, got)
		}
	}
}

func TestGuardsOnBothSides(t *testing.T) { // P11.1
	// Each guard reaches so far behind the open steps, and so far ahead of the next ones.
	p := Plan{3, 1, 2}
	for _, guard := range []int{0, 1, 2, 9, 10, 998, 999, 1000, 1001, 1998, 1999, 2000, 2001} {
		for time := 1000; time < 3000; time++ {
			if got := p.Awake(time, guard); got != (time-1000 < guard || 3000-time <= guard) {
				t.Fatalf("Awake(%d, %d): %v", time, guard, got)
			}
		}
	}
}

func TestRestAtTheEdges(t *testing.T) { // P11.1
	for _, c := range []struct {
		p          Plan
		time, want int
	}{
		{Plan{4, 1, 0}, 0, 0}, {Plan{4, 1, 0}, 999, 0}, {Plan{4, 1, 0}, 1000, 3000}, {Plan{4, 1, 0}, 1001, 2999}, {Plan{4, 1, 0}, 2500, 1500}, {Plan{4, 1, 0}, 3999, 1}, {Plan{4, 1, 0}, 4000, 0}, {Plan{4, 1, 0}, 5000, 3000},
		{Plan{4, 1, 0}, -1, 1}, {Plan{4, 1, 0}, -3000, 3000}, {Plan{4, 1, 0}, -3001, 0}, {Plan{4, 1, 0}, -4000, 0}, {Plan{4, 1, 0}, -4001, 1},
		{Plan{4, 3, 0}, 2999, 0}, {Plan{4, 3, 0}, 3000, 1000}, {Plan{4, 3, 0}, 3999, 1}, {Plan{4, 3, 0}, -1000, 1000}, {Plan{4, 3, 0}, -1001, 0},
		{Plan{64, 1, 0}, 1000, 63000}, {Plan{64, 63, 0}, 63000, 1000}, {Plan{64, 63, 0}, 62999, 0}, {Plan{64, 1, 63}, 63999, 1}, {Plan{64, 1, 63}, 64000, 0},
		{Plan{4, 1, 0}, 1000 + 4000*(1<<50), 3000}, {Plan{4, 1, 0}, 1000 - 4000*(1<<50), 3000}, {Plan{4, 1, 0}, -1 - 4000*(1<<50), 1}, {Plan{4, 1, 0}, 999 - 4000*(1<<50), 0},
		{Plan{4, 1, 0}, least, 0}, {Plan{4, 1, 0}, least + 807, 0}, {Plan{4, 1, 0}, least + 808, 3000}, {Plan{4, 1, 0}, least + 3807, 1}, {Plan{4, 1, 0}, least + 3808, 0},
		{Plan{4, 1, 0}, greatest, 193}, {Plan{4, 1, 0}, greatest - 2807, 3000}, {Plan{4, 1, 0}, greatest - 2808, 0}, {Plan{4, 1, 0}, greatest - 3808, 1},
	} {
		if got := c.p.Rest(c.time); got != c.want {
			t.Errorf("%v: %d: %d, not %d", c.p, c.time, got, c.want)
		}
	}
}

func TestAllIsOpen(t *testing.T) { // P11.1
	for round := 1; round <= 64; round++ {
		p := Plan{round, round, round - 1}
		for _, time := range farTimes(p) {
			for _, guard := range guards(p) {
				if !p.Awake(time, guard) || p.Rest(time) != 0 {
					t.Fatalf("%v: %d, %d: %v, %d", p, time, guard, p.Awake(time, guard), p.Rest(time))
				}
			}
		}
	}
}

func TestPlansThatCannotBe(t *testing.T) { // P11.1
	numbers := []int{least, least + 1, -1 << 32, -4000, -1000, -4, -3, -1, 0, 1, 3, 4, 999, 1000, 2500, 3999, 4000, 63000, 1 << 32, 1 << 62, greatest - 1, greatest}
	for _, p := range none() {
		for _, n := range numbers {
			if p.Mine(n) || p.Mine(p.Own) || p.Rest(n) != 0 {
				t.Fatalf("%v: %d: %v, %v, %d", p, n, p.Mine(n), p.Mine(p.Own), p.Rest(n))
			}
			for _, guard := range numbers {
				if !p.Awake(n, guard) {
					t.Fatalf("%v: %d, %d", p, n, guard)
				}
			}
		}
	}
}

func TestOwnIsOfMineAlone(t *testing.T) { // P11.1
	for own := range 8 {
		p, first := Plan{8, 3, own}, Plan{8, 3, 0}
		for time := -9000; time < 9000; time += 7 {
			if p.Awake(time, 5) != first.Awake(time, 5) || p.Rest(time) != first.Rest(time) || p.Ticks() != first.Ticks() {
				t.Fatalf("%d: %d", own, time)
			}
		}
	}
	for open := 1; open <= 8; open++ {
		p, first := Plan{8, open, 5}, Plan{8, 1, 5}
		for step := range 50 {
			if p.Mine(step) != first.Mine(step) {
				t.Fatalf("%d: %d", open, step)
			}
		}
	}
}

func TestWhoIsAwakeIsWithAGreaterGuard(t *testing.T) { // P11.2
	for _, p := range plans() {
		// Guards below 0 let everybody be awake, whatever the time is: they are no guards to begin with.
		list := slices.DeleteFunc(guards(p), func(guard int) bool { return guard < 0 })
		for _, time := range farTimes(p) {
			was := false
			for _, guard := range list {
				is := p.Awake(time, guard)
				if was && !is {
					t.Fatalf("%v: %d: not with the guard %d", p, time, guard)
				}
				was = is
			}
			if !was {
				t.Fatalf("%v: %d: not with the greatest guard", p, time)
			}
		}
	}
}

func TestEachGuardOfARound(t *testing.T) { // P11.1, P11.2
	for _, p := range []Plan{{1, 1, 0}, {2, 1, 0}, {3, 1, 1}, {3, 2, 0}, {5, 2, 4}} {
		ticks := 1000 * p.Round
		for at := 0; at < ticks; at += 37 {
			was := false
			for guard := range ticks + 5 {
				is := p.Awake(at, guard)
				if is != wakes(p, at, guard) || was && !is {
					t.Fatalf("%v: Awake(%d, %d): %v", p, at, guard, is)
				}
				was = is
			}
		}
	}
}

func TestJustOneStepOfARoundIsTheOwnOne(t *testing.T) { // P11.2
	for round := 1; round <= 64; round++ {
		for own := range round {
			p := Plan{round, round, own}
			// Any so many steps in a row are a round's, from wherever they begin.
			for _, first := range []int{0, 1, own, own + 1, round - 1, round, 1000 * round, 1 << 32, 1<<62 + 1, greatest - round + 1} {
				count := 0
				for step := range round {
					if p.Mine(first + step) {
						count++
					}
				}
				if count != 1 {
					t.Fatalf("%v: from %d on: %d", p, first, count)
				}
			}
		}
	}
}

func TestEachStepIsTheOwnOneOfJustOne(t *testing.T) { // P11.1, P11.2
	for _, round := range []int{1, 2, 3, 5, 8, 33, 64} {
		for step := range 3 * round {
			count := 0
			for own := range round {
				if (Plan{round, 1, own}).Mine(step) {
					count++
				}
			}
			if count != 1 {
				t.Fatalf("%d: %d: %d", round, step, count)
			}
		}
	}
}

func TestRestAgainstAwakeOverWholeRounds(t *testing.T) { // P11.1
	for _, p := range []Plan{{1, 1, 0}, {2, 1, 1}, {2, 2, 0}, {4, 1, 3}, {4, 3, 0}, {7, 2, 6}, {64, 1, 0}, {64, 33, 5}, {64, 63, 63}, {63, 62, 1}} {
		ticks := 1000 * p.Round
		for _, first := range []int{0, -ticks, -2 * ticks, ticks, 5 * ticks, 1 << 50 / ticks * ticks, -1 << 50 / ticks * ticks, greatest/ticks*ticks - ticks, least/ticks*ticks + ticks} {
			// What is left of the round, told by going on from tick to tick.
			left, awake := ticks, 0
			for time := first; time < first+ticks; time++ {
				is, rest := p.Awake(time, 0), p.Rest(time)
				if is != (rest == 0) || rest != 0 && rest != left {
					t.Fatalf("%v: %d: %v, %d, and %d are left", p, time, is, rest, left)
				}
				// Behind the rest it is open again, and not sooner.
				if !is && (!p.Awake(time+rest, 0) || p.Awake(time+rest-1, 0) || p.Rest(time+rest) != 0) {
					t.Fatalf("%v: %d: behind %d", p, time, rest)
				}
				if is {
					awake++
				}
				left--
			}
			if awake != 1000*p.Open {
				t.Fatalf("%v: from %d on: %d", p, first, awake)
			}
		}
	}
}
