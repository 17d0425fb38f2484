package bound

import (
	"math"
	"math/big"
	"testing"

	"angelus/api"
	"angelus/duty"
	"angelus/elect"
	"angelus/flood"
	"angelus/tick"
)

const (
	least    = math.MinInt
	greatest = math.MaxInt
	most     = 1 << 30 // of so many rounds bounds are told
)

// spread tells numbers that look as if drawn, the same ones every time.
type spread uint64

func (s *spread) next() uint64 {
	*s = *s*6364136223846793005 + 1442695040888963407
	return uint64(*s >> 11)
}

// between is one of the numbers from low to high, both meant.
func (s *spread) between(low, high int) int {
	return low + int(s.next()%uint64(high-low+1))
}

// of is one of some numbers.
func (s *spread) of(numbers ...int) int {
	return numbers[s.between(0, len(numbers)-1)]
}

// near is a number from low to high, one of these, or now and then one beyond them, or far beyond.
func (s *spread) near(low, high int) int {
	switch s.between(0, 11) {
	case 0, 1:
		return low
	case 2, 3:
		return high
	case 4:
		return s.of(low-1, high+1, least, greatest, -1, 0)
	}
	return s.between(low, high)
}

// edges are numbers at their ends, about 0, and about those from which on something can't be.
func edges() []int {
	return []int{least, least + 1, -1 << 50, -1 << 32, -1<<30 - 1, -1 << 30, -1001, -1000, -999, -64, -21, -11, -2, -1, 0, 1, 2, 3, 4, 5, 7, 8, 9, 10, 11, 19, 20, 21, 62, 63, 64, 65, 999, 1000, 1001, 1<<30 - 1, 1 << 30, 1<<30 + 1, 1<<31 - 1, 1 << 31, 1 << 32, 1 << 50, greatest - 1, greatest}
}

// in is whether a number is from low to high.
func in(number, low, high int) bool {
	return !(number < low) && !(number > high)
}

// canTerms, canNet are whether the rules let there be such terms, such a net.
func canTerms(x Terms) bool {
	return in(x.Drift, 0, 10) && in(x.Jitter, 0, 20) && in(x.Timeout, 1, 1000) && in(x.Round, 1, 64)
}

func canNet(x Net) bool {
	if !in(x.Nodes, 1, 64) || !in(x.Wide, 0, 63) || x.Wide == x.Nodes || x.Wide > x.Nodes {
		return false
	}
	return in(x.Misses, 0, 1000) && in(x.Ignore, 0, 1000) && in(x.Need, 1, 8)
}

// big numbers: sums, products, and what is divided and rounded up.
func num(n int) *big.Int {
	return big.NewInt(int64(n))
}

func sum(all ...*big.Int) *big.Int {
	total := new(big.Int)
	for _, n := range all {
		total.Add(total, n)
	}
	return total
}

func times(all ...*big.Int) *big.Int {
	product := num(1)
	for _, n := range all {
		product.Mul(product, n)
	}
	return product
}

func up(whole, part *big.Int) *big.Int {
	quotient, rest := new(big.Int).QuoRem(whole, part, new(big.Int))
	if rest.Sign() != 0 {
		quotient.Add(quotient, num(1))
	}
	return quotient
}

// ticks, lag, hop, rest, wrong, behind, patience and settle are the calls' answers, reckoned with numbers of any size.
func ticks(x Terms, rounds int) *big.Int {
	if !canTerms(x) || rounds < 0 || rounds > most {
		return num(0)
	}
	return times(num(rounds), num(x.Round), sum(num(1000), num(x.Drift)))
}

func lag(x Terms, rounds int) *big.Int {
	if !canTerms(x) {
		return num(0)
	}
	return up(times(num(2), num(x.Drift), ticks(x, rounds)), sum(num(1000), num(-x.Drift)))
}

func hop(x Terms) *big.Int {
	if !canTerms(x) {
		return num(0)
	}
	return sum(num(x.Jitter), num(x.Jitter), lag(x, x.Timeout+1), num(2))
}

func rest(x Terms) *big.Int {
	if !canTerms(x) {
		return num(0)
	}
	old := lag(x, 8*(x.Timeout+1))
	return sum(num(x.Jitter), num(x.Jitter), old, old, num(6))
}

func wrong(x Terms, hops int) *big.Int {
	if hops < 0 || hops > 63 {
		return num(0)
	}
	return times(num(hops), sum(hop(x), rest(x)))
}

func behind(x Net) *big.Int {
	if !canNet(x) {
		return num(0)
	}
	return times(num(x.Wide), sum(num(x.Misses), num(2)))
}

func patience(x Net) *big.Int {
	if !canNet(x) {
		return num(0)
	}
	return sum(behind(x), num(4))
}

func settle(x Net, timeout int) *big.Int {
	if !canNet(x) || num(timeout).Cmp(patience(x)) < 0 || timeout > 1000 {
		return num(0)
	}
	first := times(sum(num(x.Nodes), num(1)), sum(num(timeout), num(2)))
	word := sum(behind(x), num(2))
	each := sum(word, word, word, num(x.Ignore), times(num(x.Need), word))
	return sum(first, times(num(x.Wide), each), num(4))
}

// is fails, unless a call answers what the plain reckoning does.
func is(t testing.TB, call string, of any, number, got int, want *big.Int) {
	if num(got).Cmp(want) != 0 {
		t.Fatalf("%s of %+v, %d: %d, not %v", call, of, number, got, want)
	}
}

// reckons fails, unless all calls of terms answer as the plain ones do.
func reckons(t testing.TB, x Terms, number int) {
	if got, want := x.Good(), canTerms(x); got != want {
		t.Fatalf("Good of %+v: %v, not %v", x, got, want)
	}
	is(t, "Ticks", x, number, x.Ticks(number), ticks(x, number))
	is(t, "Lag", x, number, x.Lag(number), lag(x, number))
	is(t, "Hop", x, 0, x.Hop(), hop(x))
	is(t, "Rest", x, 0, x.Rest(), rest(x))
	is(t, "Error", x, number, x.Error(number), wrong(x, number))
}

// settles fails, unless all calls of a net answer as the plain ones do.
func settles(t testing.TB, x Net, timeout int) {
	if got, want := x.Good(), canNet(x); got != want {
		t.Fatalf("Good of %+v: %v, not %v", x, got, want)
	}
	is(t, "Behind", x, 0, x.Behind(), behind(x))
	is(t, "Patience", x, 0, x.Patience(), patience(x))
	is(t, "Settle", x, timeout, x.Settle(timeout), settle(x, timeout))
}

// P25.1: the chapter's example, each of its numbers.
func TestTheExample(t *testing.T) {
	x := Terms{Drift: 1, Jitter: 0, Timeout: 9, Round: 10}
	told := []struct {
		call      string
		got, want int
	}{
		{"Ticks(1)", x.Ticks(1), 10010},
		{"Lag(1)", x.Lag(1), 21},
		{"Lag(10)", x.Lag(10), 201},
		{"Hop", x.Hop(), 203},
	}
	for _, c := range told {
		if c.got != c.want {
			t.Errorf("%s: %d, not %d", c.call, c.got, c.want)
		}
	}
}

// P25.1: bounds of terms that were worked out by hand.
func TestBoundsToldByHand(t *testing.T) {
	told := []struct {
		of                    Terms
		rounds, ticks, lag    int
		hop, rest, hops, most int
	}{
		{Terms{0, 0, 1, 1}, 5, 5000, 0, 2, 6, 63, 504},
		{Terms{0, 20, 1000, 64}, 1 << 30, 68719476736000, 0, 42, 46, 1, 88},
		{Terms{1, 3, 9, 10}, 80, 800800, 1604, 209, 3220, 2, 6858},
		{Terms{5, 1, 3, 2}, 1, 2010, 21, 2 + 81 + 2, 2 + 2*647 + 6, 3, 3 * (85 + 1302)},
		{Terms{10, 0, 1, 1}, 1, 1010, 21, 2 + 41, 6 + 2*327, 10, 10 * (43 + 660)},
		{Terms{10, 20, 1000, 64}, 1 << 30, 69406671503360, 1402154979866, 40 + 1307165 + 2, 40 + 2*10457316 + 6, 63, 63 * (1307207 + 20914678)},
	}
	for _, c := range told {
		x := c.of
		if a, b := x.Ticks(c.rounds), x.Lag(c.rounds); a != c.ticks || b != c.lag {
			t.Errorf("%+v, %d rounds: %d, %d; and not %d, %d", x, c.rounds, a, b, c.ticks, c.lag)
		}
		if a, b := x.Hop(), x.Rest(); a != c.hop || b != c.rest {
			t.Errorf("%+v: %d, %d; and not %d, %d", x, a, b, c.hop, c.rest)
		}
		if got := x.Error(c.hops); got != c.most {
			t.Errorf("%+v, %d hops: %d, not %d", x, c.hops, got, c.most)
		}
	}
}

// P25.1: bounds of nets that were worked out by hand.
func TestNetsToldByHand(t *testing.T) {
	told := []struct {
		of               Net
		behind, patience int
		timeout, settle  int
	}{
		{Net{1, 0, 0, 0, 1}, 0, 4, 4, 2*6 + 4},
		{Net{1, 0, 1000, 1000, 8}, 0, 4, 1000, 2*1002 + 4},
		{Net{2, 1, 0, 0, 1}, 2, 6, 6, 3*8 + (3*4 + 4) + 4},
		{Net{5, 3, 1, 2, 2}, 9, 13, 13, 6*15 + 3*(33+2+22) + 4},
		{Net{64, 63, 0, 0, 1}, 126, 130, 130, 65*132 + 63*(3*128+128) + 4},
		{Net{64, 63, 13, 1000, 8}, 945, 949, 1000, 65*1002 + 63*(3*947+1000+8*947) + 4},
		{Net{64, 63, 14, 0, 1}, 1008, 1012, 1000, 0},
		{Net{64, 63, 1000, 1000, 8}, 63126, 63130, 1000, 0},
	}
	for _, c := range told {
		if a, b := c.of.Behind(), c.of.Patience(); a != c.behind || b != c.patience {
			t.Errorf("%+v: %d, %d; and not %d, %d", c.of, a, b, c.behind, c.patience)
		}
		if got := c.of.Settle(c.timeout); got != c.settle {
			t.Errorf("%+v, timeout %d: %d, not %d", c.of, c.timeout, got, c.settle)
		}
	}
}

// P25.1: Of takes the rules' Drift and Timeout, the plan's Round, and the jitter, and no other number, whether they can be or not.
func TestOfTakesJustFour(t *testing.T) {
	bare := Of(flood.Rules{}, duty.Plan{}, 0)
	if bare != (Terms{}) {
		t.Fatalf("of nothing: %+v", bare)
	}
	for _, n := range edges() {
		others := flood.Rules{Rules: elect.Rules{Ignore: n}, Need: n}
		if got := Of(others, duty.Plan{Open: n, Own: n}, 0); got != (Terms{}) {
			t.Errorf("of others, %d: %+v", n, got)
		}
		if got := Of(flood.Rules{Drift: n}, duty.Plan{}, 0); got != (Terms{Drift: n}) {
			t.Errorf("of the drift %d: %+v", n, got)
		}
		if got := Of(flood.Rules{Rules: elect.Rules{Timeout: n}}, duty.Plan{}, 0); got != (Terms{Timeout: n}) {
			t.Errorf("of the timeout %d: %+v", n, got)
		}
		if got := Of(flood.Rules{}, duty.Plan{Round: n}, 0); got != (Terms{Round: n}) {
			t.Errorf("of the round %d: %+v", n, got)
		}
		if got := Of(flood.Rules{}, duty.Plan{}, n); got != (Terms{Jitter: n}) {
			t.Errorf("of the jitter %d: %+v", n, got)
		}
	}
}

// P25.1: Of tells drawn rules, plans and jitters as they are.
func TestOfOfDrawnRules(t *testing.T) {
	s := spread(2501)
	all := edges()
	for range 20000 {
		x := Terms{s.of(all...), s.of(all...), s.of(all...), s.of(all...)}
		r := flood.Rules{Rules: elect.Rules{Timeout: x.Timeout, Ignore: s.of(all...)}, Need: s.of(all...), Drift: x.Drift}
		if got := Of(r, duty.Plan{Round: x.Round, Open: s.of(all...), Own: s.of(all...)}, x.Jitter); got != x {
			t.Fatalf("of %+v: %+v", x, got)
		}
	}
}

// with is terms with one of their fields at another value.
func (t Terms) with(field, value int) Terms {
	switch field {
	case 0:
		t.Drift = value
	case 1:
		t.Jitter = value
	case 2:
		t.Timeout = value
	case 3:
		t.Round = value
	}
	return t
}

// with is a net with one of its fields at another value.
func (n Net) with(field, value int) Net {
	switch field {
	case 0:
		n.Nodes = value
	case 1:
		n.Wide = value
	case 2:
		n.Misses = value
	case 3:
		n.Ignore = value
	case 4:
		n.Need = value
	}
	return n
}

// span is from where to where a field may be.
type span struct{ low, high int }

// spans are those of terms; of a net's fields that of Wide hangs on Nodes.
func spans() []span {
	return []span{{0, 10}, {0, 20}, {1, 1000}, {1, 64}}
}

func netSpans(nodes int) []span {
	return []span{{1, 64}, {0, nodes - 1}, {0, 1000}, {0, 1000}, {1, 8}}
}

// around are the ends of a span, one below, one above, and 0, and far beyond.
func (s span) around() map[int]bool {
	return map[int]bool{s.low: true, s.high: true, s.low - 1: false, s.high + 1: false, 0: s.low <= 0, least: false, greatest: false}
}

// P25.1: terms can be, if each field is within its ends, and not beyond.
func TestTermsThatCanBe(t *testing.T) {
	for _, x := range []Terms{{0, 0, 1, 1}, {10, 20, 1000, 64}, {5, 7, 30, 8}} {
		if !x.Good() {
			t.Errorf("%+v can't be", x)
		}
		for field, s := range spans() {
			for value, want := range s.around() {
				if got := x.with(field, value).Good(); got != want {
					t.Errorf("%+v: %v", x.with(field, value), got)
				}
			}
			for value := s.low - 3; value <= s.high+3; value++ {
				if got := x.with(field, value).Good(); got != in(value, s.low, s.high) {
					t.Errorf("%+v: %v", x.with(field, value), got)
				}
			}
		}
	}
	if (Terms{}).Good() {
		t.Error("empty terms can be")
	}
}

// P25.1: a net can be, if each field is within its ends, and not beyond.
func TestNetsThatCanBe(t *testing.T) {
	for _, x := range []Net{{64, 0, 0, 0, 1}, {64, 63, 1000, 1000, 8}, {1, 0, 0, 0, 1}, {1, 0, 1000, 1000, 8}, {30, 12, 3, 40, 4}} {
		if !x.Good() {
			t.Errorf("%+v can't be", x)
		}
		for field, s := range netSpans(x.Nodes) {
			if field == 0 {
				s.low = x.Wide + 1
			}
			for value, want := range s.around() {
				if got := x.with(field, value).Good(); got != want {
					t.Errorf("%+v: %v", x.with(field, value), got)
				}
			}
			for value := s.low - 3; value <= s.high+3; value++ {
				if got := x.with(field, value).Good(); got != in(value, s.low, s.high) {
					t.Errorf("%+v: %v", x.with(field, value), got)
				}
			}
		}
	}
	if (Net{}).Good() {
		t.Error("an empty net can be")
	}
}

// P25.1: the two farthest are fewer links apart than there are nodes.
func TestWideIsBelowNodes(t *testing.T) {
	for _, nodes := range append(edges(), 1, 2, 33, 64) {
		for _, wide := range append(edges(), nodes-1, nodes, nodes+1) {
			want := nodes >= 1 && nodes <= 64 && wide >= 0 && wide < nodes
			if got := (Net{Nodes: nodes, Wide: wide, Need: 1}).Good(); got != want {
				t.Errorf("%d nodes, %d wide: %v", nodes, wide, got)
			}
		}
	}
}

// P25.1: of terms that can't be each call answers 0, whatever the number is.
func TestTermsThatCantBeHaveNoBounds(t *testing.T) {
	all := edges()
	x := Terms{10, 20, 1000, 64}
	for field, s := range spans() {
		for _, value := range append(all, s.low-1, s.high+1, 1000, 1002, -1000) {
			bad := x.with(field, value)
			if in(value, s.low, s.high) {
				continue
			}
			for _, n := range all {
				if bad.Good() || bad.Ticks(n) != 0 || bad.Lag(n) != 0 || bad.Hop() != 0 || bad.Rest() != 0 || bad.Error(n) != 0 {
					t.Fatalf("%+v, %d: %d, %d, %d, %d, %d", bad, n, bad.Ticks(n), bad.Lag(n), bad.Hop(), bad.Rest(), bad.Error(n))
				}
			}
		}
	}
}

// P25.1: of nets that can't be each call answers 0, whatever the timeout is.
func TestNetsThatCantBeHaveNoBounds(t *testing.T) {
	all := edges()
	for _, x := range []Net{{64, 1, 1, 1000, 8}, {1, 0, 0, 0, 1}} {
		for field, s := range netSpans(x.Nodes) {
			if field == 0 {
				s.low = x.Wide + 1
			}
			for _, value := range append(all, s.low-1, s.high+1) {
				bad := x.with(field, value)
				if in(value, s.low, s.high) {
					continue
				}
				for _, n := range all {
					if bad.Good() || bad.Behind() != 0 || bad.Patience() != 0 || bad.Settle(n) != 0 {
						t.Fatalf("%+v, %d: %d, %d, %d", bad, n, bad.Behind(), bad.Patience(), bad.Settle(n))
					}
				}
			}
		}
	}
}

// P25.1: Ticks and Lag of rounds at their edges, and 0 beyond them.
func TestRoundsAtTheirEdges(t *testing.T) {
	told := []struct {
		of                 Terms
		rounds, ticks, lag int
	}{
		{Terms{0, 0, 1, 1}, 1, 1000, 0},
		{Terms{0, 0, 1, 1}, 2, 2000, 0},
		{Terms{0, 0, 1, 1}, most, 1073741824000, 0},
		{Terms{0, 0, 1, 64}, 1, 64000, 0},
		{Terms{0, 0, 1, 64}, 2, 128000, 0},
		{Terms{10, 0, 1, 1}, 1, 1010, 21},
		{Terms{10, 0, 1, 1}, 2, 2020, 41},
		{Terms{10, 0, 1, 1}, most, 1084479242240, 21908671561},
		{Terms{10, 0, 1, 64}, 1, 64640, 1306},
		{Terms{10, 0, 1, 64}, 2, 129280, 2612},
		{Terms{10, 0, 1, 64}, most, 69406671503360, 1402154979866},
		{Terms{10, 0, 1, 64}, most - 1, 69406671438720, 1402154978560},
	}
	for _, c := range told {
		if a, b := c.of.Ticks(c.rounds), c.of.Lag(c.rounds); a != c.ticks || b != c.lag {
			t.Errorf("%+v, %d: %d, %d; and not %d, %d", c.of, c.rounds, a, b, c.ticks, c.lag)
		}
		for _, rounds := range []int{0, -1, -2, most + 1, most + 2, -most, least, greatest, 1 << 58, 1 << 62, -1 << 58} {
			if a, b := c.of.Ticks(rounds), c.of.Lag(rounds); a != 0 || b != 0 {
				t.Errorf("%+v, %d: %d, %d; and not 0, 0", c.of, rounds, a, b)
			}
		}
	}
}

// P25.1: Lag is rounded up where the division has a rest, and stays where it has none.
func TestLagIsRoundedUp(t *testing.T) {
	told := []struct{ drift, round, rounds, lag int }{
		{10, 1, 99, 2020}, {10, 1, 98, 2000}, {10, 1, 100, 2041}, {10, 33, 3, 2020}, {10, 9, 11, 2020}, {10, 11, 18, 4040},
		{1, 1, 999, 2002}, {1, 1, 998, 2000}, {1, 1, 1000, 2005}, {1, 37, 27, 2002}, {1, 27, 37, 2002}, {1, 27, 74, 4004},
		{5, 1, 199, 2010}, {5, 1, 198, 2000}, {5, 1, 200, 2021}, {8, 1, 31, 504}, {8, 31, 1, 504}, {8, 31, 2, 1008}, {8, 2, 31, 1008}, {8, 2, 32, 1041},
	}
	for _, c := range told {
		if got := (Terms{c.drift, 0, 1, c.round}).Lag(c.rounds); got != c.lag {
			t.Errorf("drift %d, round %d, %d rounds: %d, not %d", c.drift, c.round, c.rounds, got, c.lag)
		}
	}
	for drift := range 11 {
		for rounds := range 3000 {
			x := Terms{drift, 0, 1, 1}
			got, whole := x.Lag(rounds)*(1000-drift), 2*drift*rounds*(1000+drift)
			if got < whole || got-whole >= 1000-drift {
				t.Fatalf("drift %d, %d rounds: %d", drift, rounds, x.Lag(rounds))
			}
		}
	}
}

// P25.1: Hop and Rest of all drifts, jitters and lengths of a round, with timeouts at their edges.
func TestHopAndRestOfAllTerms(t *testing.T) {
	for drift := range 11 {
		for jitter := range 21 {
			for round := 1; round <= 64; round++ {
				for _, timeout := range []int{1, 2, 500, 999, 1000} {
					x := Terms{drift, jitter, timeout, round}
					small, great := 2*drift*(timeout+1)*round*(1000+drift), 16*drift*(timeout+1)*round*(1000+drift)
					slow := 1000 - drift
					hop := 2*jitter + (small+slow-1)/slow + 2
					rest := 2*jitter + 2*((great+slow-1)/slow) + 6
					if a, b := x.Hop(), x.Rest(); a != hop || b != rest {
						t.Fatalf("%+v: %d, %d; and not %d, %d", x, a, b, hop, rest)
					}
				}
			}
		}
	}
}

// P25.1: Error of all hops, at their edges and beyond.
func TestErrorOfAllHops(t *testing.T) {
	for _, x := range []Terms{{0, 0, 1, 1}, {10, 20, 1000, 64}, {1, 3, 9, 10}, {0, 20, 1, 1}, {10, 0, 1, 64}} {
		one := x.Hop() + x.Rest()
		for hops := -70; hops <= 140; hops++ {
			want := 0
			if hops > 0 && hops < 64 {
				want = hops * one
			}
			if got := x.Error(hops); got != want {
				t.Errorf("%+v, %d hops: %d, not %d", x, hops, got, want)
			}
		}
		for _, hops := range []int{-1, 0, 64, least, least + 1, greatest, 1 << 32, 1<<32 + 1, 1 << 62, most} {
			if got := x.Error(hops); got != 0 {
				t.Errorf("%+v, %d hops: %d, not 0", x, hops, got)
			}
		}
	}
}

// P25.1: Behind and Patience of all widths and misses hang on these alone.
func TestBehindAndPatience(t *testing.T) {
	for wide := range 64 {
		for misses := range 1001 {
			small, great := Net{wide + 1, wide, misses, 0, 1}, Net{64, wide, misses, 1000, 8}
			want := wide*misses + 2*wide
			if a, b := small.Behind(), small.Patience(); a != want || b != want+4 {
				t.Fatalf("%+v: %d, %d", small, a, b)
			}
			if a, b := great.Behind(), great.Patience(); a != want || b != want+4 {
				t.Fatalf("%+v: %d, %d", great, a, b)
			}
		}
	}
}

// P25.1: a timeout below Patience, or above MaxTimeout, has no Settle; one at, or within, these has one.
func TestSettleOfTimeoutsAtTheirEdges(t *testing.T) {
	for _, x := range []Net{{1, 0, 0, 0, 1}, {1, 0, 1000, 1000, 8}, {2, 1, 0, 0, 1}, {5, 3, 1, 2, 2}, {64, 63, 13, 1000, 8}, {64, 0, 0, 0, 1}, {64, 1, 993, 0, 8}} {
		patience := x.Wide*(x.Misses+2) + 4
		for timeout := -3; timeout <= 1003; timeout++ {
			want := 0
			if timeout >= patience && timeout <= 1000 {
				word := patience - 2
				want = (x.Nodes+1)*(timeout+2) + x.Wide*(3*word+x.Ignore+x.Need*word) + 4
			}
			if got := x.Settle(timeout); got != want {
				t.Fatalf("%+v, timeout %d: %d, not %d", x, timeout, got, want)
			}
		}
		for _, timeout := range []int{0, -1, patience - 1, 1001, least, least + 1, greatest - 1, greatest, 1 << 32, 1<<32 + 500} {
			if got := x.Settle(timeout); got != 0 {
				t.Errorf("%+v, timeout %d: %d, not 0", x, timeout, got)
			}
		}
	}
}

// P25.1: a net whose Patience is just MaxTimeout has one timeout with a Settle; one whose Patience is above it has none.
func TestPatienceAboutMaxTimeout(t *testing.T) {
	just := []Net{{2, 1, 994, 0, 1}, {64, 2, 496, 7, 3}, {4, 3, 330, 1000, 8}, {64, 4, 247, 0, 1}, {64, 6, 164, 0, 1}, {64, 12, 81, 1000, 8}}
	above := []Net{{2, 1, 995, 0, 1}, {2, 1, 1000, 0, 1}, {64, 2, 497, 7, 3}, {4, 3, 331, 1000, 8}, {64, 63, 14, 0, 1}, {64, 63, 1000, 1000, 8}}
	for timeout := -2; timeout < 64000; timeout++ {
		for _, x := range just {
			if got, want := x.Settle(timeout) != 0, timeout == api.MaxTimeout; got != want {
				t.Fatalf("%+v, timeout %d: %d", x, timeout, x.Settle(timeout))
			}
		}
		for _, x := range above {
			if got := x.Settle(timeout); got != 0 {
				t.Fatalf("%+v, timeout %d: %d, not 0", x, timeout, got)
			}
		}
	}
	for _, timeout := range edges() {
		for _, x := range above {
			if got := x.Settle(timeout); got != 0 {
				t.Errorf("%+v, timeout %d: %d, not 0", x, timeout, got)
			}
		}
	}
	for _, x := range just {
		if got := x.Patience(); got != api.MaxTimeout {
			t.Errorf("%+v: %d", x, got)
		}
	}
}

// P25.1: all terms and nets whose fields are at their edges, and beyond, against a plain reckoning.
func TestAllAtTheirEdges(t *testing.T) {
	numbers := []int{least, -1, 0, 1, 63, 64, most, most + 1, greatest}
	for _, drift := range []int{least, -1, 0, 1, 10, 11, 1000, greatest} {
		for _, jitter := range []int{least, -1, 0, 20, 21, greatest} {
			for _, timeout := range []int{least, 0, 1, 1000, 1001, greatest} {
				for _, round := range []int{least, 0, 1, 64, 65, greatest} {
					for _, n := range numbers {
						reckons(t, Terms{drift, jitter, timeout, round}, n)
					}
				}
			}
		}
	}
	timeouts := []int{least, 0, 3, 4, 130, 999, 1000, 1001, greatest}
	for _, nodes := range []int{least, 0, 1, 64, 65, greatest} {
		for _, wide := range []int{least, -1, 0, 1, 63, 64, greatest} {
			for _, misses := range []int{least, -1, 0, 1000, 1001, greatest} {
				for _, ignore := range []int{-1, 0, 1000, 1001} {
					for _, need := range []int{0, 1, 8, 9} {
						for _, n := range timeouts {
							settles(t, Net{nodes, wide, misses, ignore, need}, n)
						}
					}
				}
			}
		}
	}
}

// P25.1: drawn terms and numbers, within their ends, at them and beyond, against a plain reckoning.
func TestDrawnTerms(t *testing.T) {
	s := spread(2502)
	all := edges()
	for range 60000 {
		x := Terms{s.near(0, 10), s.near(0, 20), s.near(1, 1000), s.near(1, 64)}
		reckons(t, x, s.near(0, 63))
		reckons(t, x, s.near(0, most))
		reckons(t, x, s.of(all...))
	}
	for range 20000 {
		reckons(t, Terms{s.of(all...), s.of(all...), s.of(all...), s.of(all...)}, s.of(all...))
	}
}

// P25.1: drawn nets and timeouts, within their ends, at them and beyond, against a plain reckoning.
func TestDrawnNets(t *testing.T) {
	s := spread(2503)
	all := edges()
	for range 60000 {
		nodes := s.near(1, 64)
		x := Net{nodes, s.near(0, max(1, min(nodes, 64))-1), s.near(0, s.of(3, 30, 1000)), s.near(0, 1000), s.near(1, 8)}
		settles(t, x, s.near(1, 1000))
		settles(t, x, s.of(all...))
		settles(t, x, x.Patience()+s.between(-1, 1))
	}
	for range 20000 {
		settles(t, Net{s.of(all...), s.of(all...), s.of(all...), s.of(all...), s.of(all...)}, s.of(all...))
	}
}

// grown fails, unless no bound of terms is above that of others.
func grown(t testing.TB, x, y Terms, rounds, hops int) {
	if x.Ticks(rounds) > y.Ticks(rounds) || x.Lag(rounds) > y.Lag(rounds) || x.Hop() > y.Hop() || x.Rest() > y.Rest() || x.Error(hops) > y.Error(hops) {
		t.Fatalf("a bound of %+v, %d rounds, %d hops, is above that of %+v", x, rounds, hops, y)
	}
}

// P25.2: no bound falls as a term, the rounds, or the hops grow.
func TestNoBoundFallsAsATermGrows(t *testing.T) {
	s := spread(2504)
	for range 20000 {
		x := Terms{s.between(0, 10), s.between(0, 20), s.between(1, 1000), s.between(1, 64)}
		rounds, hops := s.between(0, s.of(3, 8008, most-1)), s.between(0, 62)
		for field, p := range spans() {
			value := s.between(p.low, p.high-1)
			grown(t, x.with(field, value), x.with(field, value+1), rounds, hops)
		}
		if x.Ticks(rounds) >= x.Ticks(rounds+1) || x.Lag(rounds) > x.Lag(rounds+1) || x.Error(hops) >= x.Error(hops+1) {
			t.Fatalf("%+v: a bound falls from %d rounds, or %d hops, on", x, rounds, hops)
		}
	}
}

// P25.2: each term from its least to its greatest, all others at their ends.
func TestNoBoundFallsOverAWholeTerm(t *testing.T) {
	for _, x := range []Terms{{0, 0, 1, 1}, {10, 20, 1000, 64}, {1, 0, 1, 1}, {10, 0, 1, 1}} {
		for field, p := range spans() {
			for value := p.low; value < p.high; value++ {
				for _, n := range []int{0, 1, 63} {
					grown(t, x.with(field, value), x.with(field, value+1), n, n)
				}
				grown(t, x.with(field, value), x.with(field, value+1), most, 63)
			}
		}
	}
}

// P25.2: no bound falls as a field of a net, or the timeout, grows, as long as the timeout is Patience at least.
func TestNoBoundFallsAsANetGrows(t *testing.T) {
	s := spread(2505)
	settled := 0
	for range 60000 {
		nodes := s.between(2, 64)
		x := Net{nodes, s.between(0, s.of(3, nodes)-1) % nodes, s.between(0, s.of(5, 40, 1000)), s.between(0, 1000), s.between(1, 8)}
		timeout := s.between(4, 1000)
		for field, p := range netSpans(nodes) {
			if field == 0 {
				p.low = x.Wide + 1
			}
			if p.low == p.high {
				continue
			}
			value := s.between(p.low, p.high-1)
			a, b := x.with(field, value), x.with(field, value+1)
			if a.Behind() > b.Behind() || a.Patience() > b.Patience() {
				t.Fatalf("%+v, %+v", a, b)
			}
			if timeout >= b.Patience() {
				settled++
				if a.Settle(timeout) > b.Settle(timeout) || a.Settle(timeout) == 0 {
					t.Fatalf("timeout %d: %+v: %d, %+v: %d", timeout, a, a.Settle(timeout), b, b.Settle(timeout))
				}
			}
		}
		if timeout >= x.Patience() && timeout < 1000 && x.Settle(timeout) >= x.Settle(timeout+1) {
			t.Fatalf("%+v, timeout %d: %d, %d", x, timeout, x.Settle(timeout), x.Settle(timeout+1))
		}
	}
	if settled < 10000 {
		t.Fatalf("just %d of them have a Settle", settled)
	}
}

// apart lets two clocks go, as many steps on both, each as long as told, while one of them has gone by no more than Ticks of some rounds, and answers by how much they have gone apart at most, and the steps.
func apart(t testing.TB, x Terms, rounds int, first, second func() int) (far, steps int) {
	a, _ := tick.New(x.Drift)
	b, _ := tick.New(x.Drift)
	a.Boot(5)
	b.Boot(5)
	for {
		if a.Go(first()) != api.OK || b.Go(second()) != api.OK {
			t.Fatal("no step")
		}
		if min(a.Now(), b.Now())-5 > x.Ticks(rounds) {
			return far, steps
		}
		steps++
		far = max(far, a.Now()-b.Now(), b.Now()-a.Now())
	}
}

// P25.2: two clocks, one fast at each step and one slow, go apart by no more than Lag, and by just that where the division has no rest.
func TestAFastClockAndASlowOne(t *testing.T) {
	for drift := range 11 {
		fast, slow := func() int { return 1000 + drift }, func() int { return 1000 - drift }
		for _, round := range []int{1, 2, 9, 33, 64} {
			for _, rounds := range []int{0, 1, 2, 3, 11, 24} {
				x := Terms{drift, 0, 1, round}
				far, steps := apart(t, x, rounds, fast, slow)
				if far > x.Lag(rounds) || far != 2*drift*steps || 2*drift*(steps+1) < x.Lag(rounds) {
					t.Errorf("%+v, %d rounds: %d apart in %d steps, Lag %d", x, rounds, far, steps, x.Lag(rounds))
				}
				if back, _ := apart(t, x, rounds, slow, fast); back != far {
					t.Errorf("%+v, %d rounds: %d, and %d the other way", x, rounds, far, back)
				}
				if same, _ := apart(t, x, rounds, fast, fast); same != 0 {
					t.Errorf("%+v, %d rounds: two fast ones are %d apart", x, rounds, same)
				}
			}
		}
	}
	x := Terms{10, 0, 1, 33}
	if far, _ := apart(t, x, 3, func() int { return 990 }, func() int { return 1010 }); far != 2020 || x.Lag(3) != 2020 {
		t.Errorf("%d, not 2020", far)
	}
}

// P25.2: two clocks with drawn steps, and steps all at their ends, go apart by no more than Lag.
func TestClocksWithDrawnSteps(t *testing.T) {
	s := spread(2506)
	for range 2000 {
		x := Terms{s.between(0, 10), s.between(0, 20), s.between(1, 1000), s.between(1, 64)}
		rounds := s.between(0, 12)
		drawn := func() int { return 1000 + s.between(-x.Drift, x.Drift) }
		ends := func() int { return 1000 + s.of(-x.Drift, x.Drift) }
		mostly := func() int { return 1000 + s.of(x.Drift, x.Drift, x.Drift, 0) }
		if far, _ := apart(t, x, rounds, drawn, drawn); far > x.Lag(rounds) {
			t.Fatalf("%+v, %d rounds, drawn: %d", x, rounds, far)
		}
		if far, _ := apart(t, x, rounds, ends, ends); far > x.Lag(rounds) {
			t.Fatalf("%+v, %d rounds, at their ends: %d", x, rounds, far)
		}
		if far, _ := apart(t, x, rounds, mostly, func() int { return 1000 - x.Drift }); far > x.Lag(rounds) {
			t.Fatalf("%+v, %d rounds, mostly fast: %d", x, rounds, far)
		}
	}
}
