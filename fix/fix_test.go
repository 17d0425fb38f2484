package fix

import (
	"math"
	"math/big"
	"testing"
)

const (
	least    = math.MinInt
	greatest = math.MaxInt
)

// edges are the numbers at which sums, products and roundings change their way.
func edges() []int {
	list := []int{0, greatest, least}
	for _, n := range []int{1, 2, 3, 4, 7, 8, 10, 1000, 1<<31 - 1, 1 << 31, 1<<32 - 1, 1 << 32, 1<<32 + 1, 3037000499, 3037000500, 1 << 50, 1<<61 - 1, 1 << 61, 1 << 62, 1<<62 + 1, greatest / 3, greatest - 1} {
		list = append(list, n, -n)
	}
	return append(list, -greatest)
}

// spread is a row of numbers of all lengths, the same in each run.
func spread(count int) []int {
	list := make([]int, 0, count)
	seed := uint64(0x9e3779b97f4a7c15)
	for i := range count {
		seed ^= seed << 13
		seed ^= seed >> 7
		seed ^= seed << 17
		list = append(list, int(seed)>>(i%64))
	}
	return list
}

func all() []int { return append(edges(), spread(80)...) }

func wide(n int) *big.Int { return big.NewInt(int64(n)) }

// held is what a call that never goes round answers for a true result.
func held(n *big.Int) (int, bool) {
	if !n.IsInt64() {
		return 0, false
	}
	return int(n.Int64()), true
}

func TestAddAndSubOfAllNumbers(t *testing.T) { // P1.1
	for _, a := range all() {
		for _, b := range all() {
			want, is := held(new(big.Int).Add(wide(a), wide(b)))
			if got, ok := Add(a, b); got != want || ok != is {
				t.Fatalf("Add(%d, %d): %d, %v, not %d, %v", a, b, got, ok, want, is)
			}
			want, is = held(new(big.Int).Sub(wide(a), wide(b)))
			if got, ok := Sub(a, b); got != want || ok != is {
				t.Fatalf("Sub(%d, %d): %d, %v, not %d, %v", a, b, got, ok, want, is)
			}
		}
	}
}

func TestAddAtTheEdges(t *testing.T) { // P1.1
	for _, c := range []struct {
		a, b, want int
		ok         bool
	}{
		{2, 3, 5, true}, {-2, -3, -5, true}, {0, 0, 0, true},
		{greatest, 0, greatest, true}, {greatest - 1, 1, greatest, true}, {greatest, 1, 0, false}, {1, greatest, 0, false}, {greatest, greatest, 0, false},
		{least, 0, least, true}, {least + 1, -1, least, true}, {least, -1, 0, false}, {-1, least, 0, false}, {least, least, 0, false},
		{greatest, least, -1, true}, {least, greatest, -1, true},
	} {
		if got, ok := Add(c.a, c.b); got != c.want || ok != c.ok {
			t.Errorf("Add(%d, %d): %d, %v", c.a, c.b, got, ok)
		}
	}
}

func TestSubAtTheEdges(t *testing.T) { // P1.1
	for _, c := range []struct {
		a, b, want int
		ok         bool
	}{
		{2, 3, -1, true}, {-2, -3, 1, true}, {0, 0, 0, true},
		{least, 0, least, true}, {least + 1, 1, least, true}, {least, 1, 0, false}, {least, greatest, 0, false},
		{greatest, 0, greatest, true}, {greatest - 1, -1, greatest, true}, {greatest, -1, 0, false}, {greatest, least, 0, false},
		{0, least, 0, false}, {-1, least, greatest, true}, {0, greatest, -greatest, true}, {-1, greatest, least, true}, {-2, greatest, 0, false},
		{least, least, 0, true}, {greatest, greatest, 0, true},
	} {
		if got, ok := Sub(c.a, c.b); got != c.want || ok != c.ok {
			t.Errorf("Sub(%d, %d): %d, %v", c.a, c.b, got, ok)
		}
	}
}

func TestSatOfAllNumbers(t *testing.T) { // P1.1
	for _, a := range all() {
		for _, b := range all() {
			sum := new(big.Int).Add(wide(a), wide(b))
			want, ok := held(sum)
			if !ok && sum.Sign() > 0 {
				want = greatest
			} else if !ok {
				want = least
			}
			if got := Sat(a, b); got != want {
				t.Fatalf("Sat(%d, %d): %d, not %d", a, b, got, want)
			}
		}
	}
}

func TestSatAtTheEdges(t *testing.T) { // P1.1
	for _, c := range [][3]int{
		{2, 3, 5}, {-2, -3, -5}, {greatest, 1, greatest}, {1, greatest, greatest}, {greatest, greatest, greatest},
		{least, -1, least}, {-1, least, least}, {least, least, least}, {greatest, least, -1}, {greatest, -1, greatest - 1}, {least, 1, least + 1},
	} {
		if got := Sat(c[0], c[1]); got != c[2] {
			t.Errorf("Sat(%d, %d): %d", c[0], c[1], got)
		}
	}
}

func TestSize(t *testing.T) { // P1.1
	for _, n := range all() {
		if got, want := Size(n), new(big.Int).Abs(wide(n)); want.Cmp(new(big.Int).SetUint64(got)) != 0 {
			t.Errorf("Size(%d): %d, not %d", n, got, want)
		}
	}
	if Size(least) != 1<<63 || Size(greatest) != 1<<63-1 || Size(-5) != 5 || Size(0) != 0 {
		t.Error("Size at the edges")
	}
}

func TestFloorOfAllNumbers(t *testing.T) { // P1.1, P1.2
	for _, a := range all() {
		for _, b := range all() {
			quotient, rest, ok := Floor(a, b)
			if b < 1 {
				if quotient != 0 || rest != 0 || ok {
					t.Fatalf("Floor(%d, %d): %d, %d, %v", a, b, quotient, rest, ok)
				}
				continue
			}
			if !ok || rest < 0 || rest >= b {
				t.Fatalf("Floor(%d, %d): %d, %d, %v", a, b, quotient, rest, ok)
			}
			back := new(big.Int).Mul(wide(b), wide(quotient))
			if back.Add(back, wide(rest)).Cmp(wide(a)) != 0 {
				t.Fatalf("Floor(%d, %d): %d, %d, which come to %d", a, b, quotient, rest, back)
			}
		}
	}
}

func TestFloorAtTheEdges(t *testing.T) { // P1.1
	for _, c := range []struct {
		a, b, quotient, rest int
		ok                   bool
	}{
		{-7, 2, -4, 1, true}, {7, 2, 3, 1, true}, {-8, 2, -4, 0, true}, {-1, 5, -1, 4, true}, {0, 5, 0, 0, true},
		{least, 1, least, 0, true}, {least, greatest, -2, greatest - 1, true}, {greatest, greatest, 1, 0, true}, {-1, greatest, -1, greatest - 1, true}, {least, 3, -3074457345618258603, 1, true},
		{1, 0, 0, 0, false}, {7, -2, 0, 0, false}, {-7, -2, 0, 0, false}, {least, -1, 0, 0, false}, {least, least, 0, 0, false}, {0, 0, 0, 0, false},
	} {
		if quotient, rest, ok := Floor(c.a, c.b); quotient != c.quotient || rest != c.rest || ok != c.ok {
			t.Errorf("Floor(%d, %d): %d, %d, %v", c.a, c.b, quotient, rest, ok)
		}
	}
}

// divided is what MulDiv is to answer: big's Div rounds down where the divisor is above 0.
func divided(a, b, c int) (int, bool) {
	if c < 1 {
		return 0, false
	}
	product := new(big.Int).Mul(wide(a), wide(b))
	return held(product.Div(product, wide(c)))
}

func TestMulDivOfAllNumbers(t *testing.T) { // P1.1
	for _, a := range all() {
		for _, b := range all() {
			for _, c := range edges() {
				want, is := divided(a, b, c)
				if got, ok := MulDiv(a, b, c); got != want || ok != is {
					t.Fatalf("MulDiv(%d, %d, %d): %d, %v, not %d, %v", a, b, c, got, ok, want, is)
				}
			}
		}
	}
}

func TestMulDivAtTheEdges(t *testing.T) { // P1.1
	for _, c := range []struct {
		a, b, c, want int
		ok            bool
	}{
		{1 << 62, 6, 8, 3 << 60, true}, {7, 1, 2, 3, true}, {-7, 1, 2, -4, true}, {7, -1, 2, -4, true}, {-7, -1, 2, 3, true}, {-8, 1, 2, -4, true}, {0, -5, 3, 0, true}, {-5, 0, 3, 0, true},
		// Products beyond 64 bits whose quotients aren't.
		{greatest, greatest, greatest, greatest, true}, {least, greatest, greatest, least, true}, {least, least, greatest, 0, false}, {least, least + 1, greatest, 0, false}, {least + 1, least + 1, greatest, greatest, true},
		// The last quotients that can be, and the first that can't.
		{least, 1, 1, least, true}, {least, -1, 1, 0, false}, {least, -1, 2, 1 << 62, true}, {greatest, 1, 1, greatest, true}, {greatest, -1, 1, least + 1, true}, {greatest, 2, 1, 0, false}, {1 << 62, 2, 1, 0, false}, {1 << 62, -2, 1, least, true}, {1 << 62, 4, 2, 0, false}, {1 << 62, -4, 2, least, true},
		// 2^64 - 1, by 2: rounded down just to the least number.
		{-3689348814741910323, 5, 2, least, true}, {3689348814741910323, 5, 2, greatest, true},
		// 2^64 + 1, by 2: rounded down just beyond the least number.
		{-274177, 67280421310721, 2, 0, false}, {274177, 67280421310721, 2, 0, false},
		// 2^65 - 1, by 2: the greatest quotient of 64 bits without a sign, and a rest.
		{-253921, 145295143558111, 2, 0, false}, {253921, 145295143558111, 2, 0, false},
		// Quotients of more than 64 bits.
		{greatest, greatest, 1, 0, false}, {least, greatest, 1, 0, false}, {least, least, 1, 0, false}, {1 << 62, 8, 2, 0, false}, {-1 << 62, 8, 2, 0, false},
		// Divisors below 1.
		{1, 1, 0, 0, false}, {1, 1, -1, 0, false}, {0, 0, 0, 0, false}, {least, least, least, 0, false}, {6, -2, -3, 0, false},
	} {
		if got, ok := MulDiv(c.a, c.b, c.c); got != c.want || ok != c.ok {
			t.Errorf("MulDiv(%d, %d, %d): %d, %v", c.a, c.b, c.c, got, ok)
		}
	}
}

func TestClamp(t *testing.T) { // P1.1
	for _, c := range [][4]int{
		{2, 1, 3, 2}, {1, 1, 3, 1}, {3, 1, 3, 3}, {0, 1, 3, 1}, {4, 1, 3, 3}, {5, 5, 5, 5}, {4, 5, 5, 5}, {6, 5, 5, 5}, {-2, -3, -1, -2},
		{least, least, greatest, least}, {greatest, least, greatest, greatest}, {least, 0, greatest, 0}, {greatest, least, 0, 0},
		// Bounds the wrong way round: always the lower one, wherever the number lies.
		{2, 9, 3, 9}, {3, 9, 3, 9}, {5, 9, 3, 9}, {9, 9, 3, 9}, {10, 9, 3, 9}, {0, greatest, least, greatest}, {greatest, 0, -1, 0}, {least, 0, least, 0},
	} {
		if got := Clamp(c[0], c[1], c[2]); got != c[3] {
			t.Errorf("Clamp(%d, %d, %d): %d", c[0], c[1], c[2], got)
		}
	}
}

func TestWhatIsAddedIsTakenAwayAgain(t *testing.T) { // P1.2
	for _, a := range all() {
		for _, b := range all() {
			if sum, ok := Add(a, b); ok {
				if back, can := Sub(sum, b); back != a || !can {
					t.Fatalf("%d and %d, less that: %d, %v", a, b, back, can)
				}
			}
			if less, ok := Sub(a, b); ok {
				if back, can := Add(less, b); back != a || !can {
					t.Fatalf("%d less %d, and that: %d, %v", a, b, back, can)
				}
			}
		}
	}
}
