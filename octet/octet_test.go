package octet

import (
	"bytes"
	"math"
	"math/big"
	"testing"
)

// number is one that is put, and in how many bytes.
type number struct {
	size int
	n    uint64
}

// edges are the numbers at which a byte more or less is needed, and some whose bytes all differ.
func edges() []uint64 {
	list := []uint64{0, 1, 2, 127, 128, 258, 0x0102030405060708, 0xf0e1d2c3b4a59687, 0x8000000000000001, 1<<64 - 2, 1<<64 - 1}
	for bit := 8; bit < 64; bit += 8 {
		power := uint64(1) << bit
		list = append(list, power-1, power, power+1, power>>1, power>>1-1)
	}
	return append(list, 1<<63-1, 1<<63)
}

// sizes are all in which a number can be put, and those below and above.
func sizes() []int {
	return []int{math.MinInt, math.MinInt + 1, math.MinInt32, -9, -8, -2, -1, 0, 1, 2, 3, 4, 5, 6, 7, 8, 9, 10, 16, 64, 255, 256, math.MaxInt32, 1 << 32, math.MaxInt - 1, math.MaxInt}
}

// wrongSizes are those in which an eye reads nothing, however many bytes there are.
func wrongSizes() []int {
	list := []int{}
	for _, size := range sizes() {
		if size < 0 || size > 8 {
			list = append(list, size)
		}
	}
	return list
}

// held is the size in which a number is put, when a size is asked.
func held(size int) int {
	switch {
	case size < 1:
		return 0
	case size > 8:
		return 8
	}
	return size
}

// rest is what is left of a number in so many bytes.
func rest(size int, n uint64) *big.Int {
	room := new(big.Int).Lsh(big.NewInt(1), uint(8*held(size)))
	return room.Mod(new(big.Int).SetUint64(n), room)
}

// laid is what has to be put for a number, found by division.
func laid(size int, n uint64) []byte {
	return rest(size, n).FillBytes(make([]byte, held(size)))
}

// counted is the number that has to be read from bytes, found by multiplication.
func counted(b []byte) uint64 { return new(big.Int).SetBytes(b).Uint64() }

// spread is a row of bytes without a rule, the same in each run.
func spread(count int) []byte {
	list := make([]byte, 0, count)
	seed := uint32(count) + 0x9e3779b9
	for range count {
		seed = seed*1664525 + 1013904223
		list = append(list, byte(seed>>24))
	}
	return list
}

// mixed is a row of numbers of all sizes and kinds, the same in each run.
func mixed(count int) []number {
	all, list := edges(), make([]number, 0, count)
	seed := uint64(count)*2 + 0x9e3779b97f4a7c15
	for range count {
		seed ^= seed << 13
		seed ^= seed >> 7
		seed ^= seed << 17
		next := number{int(seed>>5%13) - 2, seed}
		if seed>>40%3 == 0 {
			next.n = all[seed>>20%uint64(len(all))]
		}
		list = append(list, next)
	}
	return list
}

// mustHold fails if a pen hasn't put exactly these bytes.
func mustHold(t *testing.T, p *Pen, want []byte) {
	t.Helper()
	if got := p.Bytes(); !bytes.Equal(got, want) {
		t.Fatalf("% x, not % x", got, want)
	}
}

// mustRead fails if an eye reads another number, or leaves another count of bytes.
func mustRead(t *testing.T, e *Eye, size int, want uint64, left int) {
	t.Helper()
	if got, ok := e.Num(size); got != want || !ok || e.Left() != left {
		t.Fatalf("Num(%d): %x, %v, left %d; not %x, true, left %d", size, got, ok, e.Left(), want, left)
	}
}

// mustRefuse fails if an eye reads in a size, answers a number beside the refusal, or leaves fewer or more bytes than before.
func mustRefuse(t *testing.T, e *Eye, size int) {
	t.Helper()
	left := e.Left()
	if got, ok := e.Num(size); got != 0 || ok || e.Left() != left {
		t.Fatalf("Num(%d) of %d bytes: %x, %v, left %d", size, left, got, ok, e.Left())
	}
}

func TestPenPutsKnownNumbers(t *testing.T) { // P4.1
	for _, c := range []struct {
		size int
		n    uint64
		want string
	}{
		{2, 258, "\x01\x02"}, {1, 258, "\x02"}, {3, 258, "\x00\x01\x02"}, {0, 258, ""}, {-1, 258, ""},
		{1, 0, "\x00"}, {1, 1, "\x01"}, {1, 255, "\xff"}, {1, 256, "\x00"}, {2, 255, "\x00\xff"}, {2, 256, "\x01\x00"}, {2, 65536, "\x00\x00"},
		{8, 0, "\x00\x00\x00\x00\x00\x00\x00\x00"}, {8, 1, "\x00\x00\x00\x00\x00\x00\x00\x01"}, {8, 256, "\x00\x00\x00\x00\x00\x00\x01\x00"},
		{8, 1 << 63, "\x80\x00\x00\x00\x00\x00\x00\x00"}, {7, 1 << 63, "\x00\x00\x00\x00\x00\x00\x00"}, {8, 1<<64 - 1, "\xff\xff\xff\xff\xff\xff\xff\xff"}, {7, 1<<64 - 1, "\xff\xff\xff\xff\xff\xff\xff"},
		{8, 0x0102030405060708, "\x01\x02\x03\x04\x05\x06\x07\x08"}, {5, 0x0102030405060708, "\x04\x05\x06\x07\x08"},
		{9, 1, "\x00\x00\x00\x00\x00\x00\x00\x01"}, {9, 0x0102030405060708, "\x01\x02\x03\x04\x05\x06\x07\x08"}, {math.MaxInt, 1 << 63, "\x80\x00\x00\x00\x00\x00\x00\x00"}, {math.MinInt, 1<<64 - 1, ""},
	} {
		if got := new(Pen).Num(c.size, c.n).Bytes(); string(got) != c.want {
			t.Errorf("Num(%d, %x): % x, not % x", c.size, c.n, got, c.want)
		}
	}
}

func TestPenPutsAllSizesOfAllNumbers(t *testing.T) { // P4.1
	for _, size := range sizes() {
		for _, n := range edges() {
			mustHold(t, new(Pen).Num(size, n), laid(size, n))
		}
		for n := uint64(0); n < 1<<16; n += 7 {
			mustHold(t, new(Pen).Num(size, n), laid(size, n))
		}
	}
}

func TestNumAnswersThePenItself(t *testing.T) { // P4.1
	var empty Pen
	pens := []*Pen{&empty, new(Pen), {}, new(Pen).Num(3, 9)}
	for _, p := range pens {
		for _, size := range sizes() {
			if got := p.Num(size, 5); got != p {
				t.Fatalf("Num(%d) answers another pen", size)
			}
		}
	}
}

func TestEmptyPenHasPutNothing(t *testing.T) { // P4.1
	var empty Pen
	mustHold(t, &empty, nil)
	mustHold(t, new(Pen), nil)
	mustHold(t, &Pen{}, nil)
	for _, size := range []int{math.MinInt, math.MinInt + 1, -9, -8, -1, 0} {
		mustHold(t, empty.Num(size, 1<<64-1), nil)
	}
	mustHold(t, empty.Num(1, 0), []byte{0})
}

func TestNilPenPutsNothing(t *testing.T) { // P4.1
	var none *Pen
	for _, size := range sizes() {
		for _, n := range edges() {
			if got := none.Num(size, n); got != nil {
				t.Fatalf("Num(%d, %x) of a nil pen answers a pen", size, n)
			}
		}
	}
	if got := none.Num(1, 1).Num(8, 2).Bytes(); len(got) != 0 {
		t.Errorf("a nil pen has put % x", got)
	}
}

func TestPenPutsNumbersOneBehindTheOther(t *testing.T) { // P4.1
	for _, count := range []int{1, 2, 3, 9, 64, 300, 2000} {
		asked, silent, want := new(Pen), new(Pen), []byte{}
		for _, next := range mixed(count) {
			want = append(want, laid(next.size, next.n)...)
			// To ask a pen between changes nothing of what follows.
			mustHold(t, asked.Num(next.size, next.n), want)
			mustHold(t, asked, want)
			silent.Num(next.size, next.n)
		}
		mustHold(t, silent, want)
	}
}

func TestTwoPensKnowNothingOfOneAnother(t *testing.T) { // P4.1
	first, second := new(Pen), new(Pen)
	for n := range uint64(100) {
		first.Num(2, n)
		second.Num(3, n+7)
	}
	a, b := []byte{}, []byte{}
	for n := range uint64(100) {
		a, b = append(a, laid(2, n)...), append(b, laid(3, n+7)...)
	}
	mustHold(t, first, a)
	mustHold(t, second, b)
}

// scratch turns every byte of an answer, those of its spare room included.
func scratch(b []byte) {
	b = b[:cap(b)]
	for place := range b {
		b[place] ^= 0xff
	}
}

func TestBytesAreNewMemory(t *testing.T) { // P4.1
	for count := range 70 {
		p, want := new(Pen), spread(count)
		for _, b := range want {
			p.Num(1, uint64(b))
		}
		early := p.Bytes()
		scratch(p.Bytes())
		mustHold(t, p, want)
		if !bytes.Equal(early, want) {
			t.Fatalf("%d bytes: what is written into an answer is seen in an earlier one", count)
		}
		late := p.Bytes()
		scratch(early)
		if !bytes.Equal(late, want) {
			t.Fatalf("%d bytes: what is written into an answer is seen in a later one", count)
		}
		// Nor is what is put later to be seen in what was answered, or what was written there in what is put.
		room := late[:cap(late)]
		was := append([]byte{}, room...)
		p.Num(8, 0x1122334455667788)
		if !bytes.Equal(room, was) {
			t.Fatalf("%d bytes: what is put later is seen in an answer", count)
		}
		scratch(late)
		mustHold(t, p, append(want, 0x11, 0x22, 0x33, 0x44, 0x55, 0x66, 0x77, 0x88))
	}
}

func TestEyeReadsKnownNumbers(t *testing.T) { // P4.1
	for _, c := range []struct {
		b    string
		size int
		want uint64
		left int
	}{
		{"\x01\x02", 2, 258, 0}, {"\x01\x02", 1, 1, 1}, {"\x01\x02", 0, 0, 2}, {"\x00", 1, 0, 0}, {"\xff", 1, 255, 0}, {"\xff\x01", 1, 255, 1},
		{"\x00\x01\x00", 3, 256, 0}, {"\x80\x00\x00\x00\x00\x00\x00\x00", 8, 1 << 63, 0}, {"\xff\xff\xff\xff\xff\xff\xff\xff", 8, 1<<64 - 1, 0},
		{"\x01\x02\x03\x04\x05\x06\x07\x08\x09", 8, 0x0102030405060708, 1}, {"\x01\x02\x03\x04\x05\x06\x07\x08\x09", 7, 0x01020304050607, 2},
	} {
		mustRead(t, Of([]byte(c.b)...), c.size, c.want, c.left)
	}
}

func TestEyeOnNoBytes(t *testing.T) { // P4.1
	var blind *Eye
	for _, e := range []*Eye{Of(), Of(nil...), Of([]byte{}...), Of([]byte{7, 8, 9}[:0]...), blind} {
		for range 2 {
			for _, size := range sizes() {
				if e.Left() != 0 {
					t.Fatalf("%d bytes left of none", e.Left())
				}
				if size == 0 {
					mustRead(t, e, 0, 0, 0)
				} else {
					mustRefuse(t, e, size)
				}
			}
		}
	}
	if Of() == nil {
		t.Error("an eye on no bytes is nil")
	}
}

func TestEyeReadsAllSizesOfAllCounts(t *testing.T) { // P4.1
	for count := range 40 {
		row := spread(count)
		for _, size := range sizes() {
			e := Of(row...)
			if e.Left() != count {
				t.Fatalf("%d bytes left of %d", e.Left(), count)
			}
			if size < 0 || size > 8 || size > count {
				mustRefuse(t, e, size)
				size = 0
			}
			mustRead(t, e, size, counted(row[:size]), count-size)
			// What is read next stands behind what was read.
			next := min(8, count-size)
			mustRead(t, e, next, counted(row[size:size+next]), count-size-next)
		}
	}
}

func TestWhereFalseIsAnsweredNothingIsRead(t *testing.T) { // P4.1
	for count := range 20 {
		row := spread(count)
		e := Of(row...)
		for place, b := range row {
			for range 2 {
				for _, size := range wrongSizes() {
					mustRefuse(t, e, size)
				}
				for size := count - place + 1; size <= 8; size++ {
					mustRefuse(t, e, size)
				}
			}
			mustRead(t, e, 1, uint64(b), count-place-1)
		}
		mustRefuse(t, e, 1)
		mustRead(t, e, 0, 0, 0)
	}
}

func TestEyeWithOneByteTooFewAndSomeToSpare(t *testing.T) { // P4.1
	for size := 1; size <= 8; size++ {
		row := spread(size + 3)
		few := Of(row[:size-1]...)
		mustRefuse(t, few, size)
		mustRead(t, few, size-1, counted(row[:size-1]), 0)
		mustRead(t, Of(row[:size]...), size, counted(row[:size]), 0)
		mustRead(t, Of(row...), size, counted(row[:size]), 3)
	}
}

func TestTwoEyesOnTheSameBytes(t *testing.T) { // P4.1
	row := spread(24)
	first, second := Of(row...), Of(row...)
	for place := 0; place < 24; place += 3 {
		mustRead(t, first, 3, counted(row[place:place+3]), 24-place-3)
		if second.Left() != 24 {
			t.Fatalf("what one eye reads is read for the other: %d left", second.Left())
		}
	}
	mustRead(t, second, 8, counted(row[:8]), 16)
}

func TestWhatIsHandedInIsNotChangedNorKept(t *testing.T) { // P4.1
	for count := range 40 {
		row := spread(count)
		long := append(append([]byte{}, row...), spread(24)...)
		was := append([]byte{}, long...)
		// The row's spare room holds bytes that aren't the row's.
		e := Of(long[:count]...)
		mustRefuse(t, e, 9)
		half := min(8, count/2)
		mustRead(t, e, half, counted(row[:half]), count-half)
		if !bytes.Equal(long, was) {
			t.Fatalf("%d bytes were changed, or the room behind them", count)
		}
		for place := range long {
			long[place] ^= 0xff
		}
		for place := half; place < count; place++ {
			mustRead(t, e, 1, uint64(row[place]), count-place-1)
		}
		mustRefuse(t, e, 1)
	}
}

func TestWhatAPenPutAnEyeKeeps(t *testing.T) { // P4.2
	p := new(Pen).Num(8, 1<<63).Num(3, 258)
	b := p.Bytes()
	e := Of(b...)
	scratch(b)
	p.Num(8, 1<<64-1)
	mustRead(t, e, 8, 1<<63, 3)
	mustRead(t, e, 3, 258, 0)
	mustRefuse(t, e, 8)
}

// mustComeBack fails if numbers that were put aren't read again, each in its size, or if anything is left.
func mustComeBack(t *testing.T, list ...number) {
	t.Helper()
	p, left := new(Pen), 0
	for _, next := range list {
		p.Num(next.size, next.n)
		left += held(next.size)
	}
	e := Of(p.Bytes()...)
	if e.Left() != left {
		t.Fatalf("%d bytes, not %d, of %x", e.Left(), left, list)
	}
	for _, next := range list {
		left -= held(next.size)
		mustRead(t, e, held(next.size), rest(next.size, next.n).Uint64(), left)
	}
	mustRefuse(t, e, 1)
}

func TestOneNumberIsReadAgain(t *testing.T) { // P4.2
	mustComeBack(t)
	for _, size := range sizes() {
		for _, n := range edges() {
			mustComeBack(t, number{size, n})
		}
	}
	for n := range uint64(1 << 16) {
		got, ok := Of(new(Pen).Num(2, n).Bytes()...).Num(2)
		if got != n || !ok {
			t.Fatalf("%d in 2 bytes: %d, %v", n, got, ok)
		}
	}
}

func TestTwoNumbersAreReadAgain(t *testing.T) { // P4.2
	for first := -1; first <= 9; first++ {
		for second := -1; second <= 9; second++ {
			for _, n := range edges() {
				mustComeBack(t, number{first, n}, number{second, ^n})
			}
		}
	}
}

func TestThreeNumbersAreReadAgain(t *testing.T) { // P4.2
	for place := range 9 * 9 * 9 {
		mustComeBack(t, number{place % 9, 0x0102030405060708}, number{place / 9 % 9, 1<<64 - 1}, number{place / 81, 0xf0e1d2c3b4a59687})
	}
}

// ordered calls with every order in which sizes can stand behind those that were chosen.
func ordered(chosen, open []number, call func([]number)) {
	if len(open) == 0 {
		call(chosen)
	}
	for place := range open {
		behind := append(append([]number{}, open[:place]...), open[place+1:]...)
		ordered(append(append([]number{}, chosen...), open[place]), behind, call)
	}
}

func TestEveryOrderOfSizesIsReadAgain(t *testing.T) { // P4.2
	list := []number{{1, 255}, {2, 258}, {3, 1 << 23}, {4, 0xdeadbeef}, {5, 1 << 32}, {6, 1<<48 - 1}, {7, 0x0102030405060708}, {8, 1<<64 - 1}}
	count := 0
	ordered(nil, list, func(list []number) {
		count++
		mustComeBack(t, list...)
	})
	if count != 40320 {
		t.Fatalf("%d orders", count)
	}
}

func TestManyNumbersAreReadAgain(t *testing.T) { // P4.2
	for _, count := range []int{4, 8, 64, 500, 20000} {
		mustComeBack(t, mixed(count)...)
	}
}

func TestBytesOfOneNumberAreReadOneByOne(t *testing.T) { // P4.2
	for _, n := range edges() {
		e := Of(new(Pen).Num(8, n).Bytes()...)
		for place := range 8 {
			mustRead(t, e, 1, n>>(8*(7-place))%256, 7-place)
		}
		p := new(Pen)
		for place := range 8 {
			p.Num(1, n>>(8*(7-place)))
		}
		mustRead(t, Of(p.Bytes()...), 8, n, 0)
	}
}
