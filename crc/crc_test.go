package crc

import (
	"bytes"
	"testing"
)

// sumEdges are the sums to go on from, at which bits go out or stay.
func sumEdges() []uint16 { return []uint16{0, 1, 0x8000, 0xffff} }

// spread is a row of bytes without a rule that a sum could miss, the same in each run.
func spread(count int) []byte {
	list := make([]byte, 0, count)
	seed := uint32(count) + 0x9e3779b9
	for range count {
		seed = seed*1664525 + 1013904223
		list = append(list, byte(seed>>24))
	}
	return list
}

// rows are those that are summed, sealed and opened: none, one, and many bytes.
func rows() [][]byte {
	list := [][]byte{nil, {}, {0}, {1}, {0x80}, {0xff}, {0, 0}, {0xff, 0xff}, []byte("A"), []byte("123456789"), make([]byte, 300), bytes.Repeat([]byte{0xff}, 300)}
	for _, count := range []int{2, 3, 4, 15, 16, 17, 62, 64, 255, 256, 257, 5000, 70000} {
		list = append(list, spread(count))
	}
	return list
}

// divided is what a sum behind bytes has to be, found another way: all bits stand in one row, the sum turned in at its head, and the row is divided by x^16 + x^12 + x^5 + 1.
func divided(sum uint16, b []byte) uint16 {
	row := make([]byte, 0, 8*len(b)+16)
	for _, next := range b {
		for bit := 7; bit >= 0; bit-- {
			row = append(row, next>>bit&1)
		}
	}
	row = append(row, make([]byte, 16)...)
	for place := range 16 {
		row[place] ^= byte(sum >> (15 - place) & 1)
	}
	for place := range 8 * len(b) {
		if row[place] == 1 {
			for _, behind := range []int{0, 4, 11, 16} {
				row[place+behind] ^= 1
			}
		}
	}
	left := uint16(0)
	for _, bit := range row[8*len(b):] {
		left = left<<1 | uint16(bit)
	}
	return left
}

// turn answers a copy of a row with the bits of a pattern turned, the pattern's lowest bit at a place, the others behind it.
func turn(row []byte, place int, pattern uint16) []byte {
	list := append([]byte{}, row...)
	for ; pattern != 0; place, pattern = place+1, pattern>>1 {
		if pattern&1 == 1 {
			list[place/8] ^= 0x80 >> (place % 8)
		}
	}
	return list
}

// length is how many bits in a row a pattern takes.
func length(pattern uint16) int {
	count := 0
	for ; pattern != 0; pattern >>= 1 {
		count++
	}
	return count
}

// mustStayShut fails if a row is opened, or if bytes stand beside the refusal.
func mustStayShut(t *testing.T, row []byte) {
	t.Helper()
	if got, ok := Open(row...); ok || len(got) != 0 {
		t.Fatalf("Open(% x): % x, %v", row, got, ok)
	}
}

func TestSumOfKnownBytes(t *testing.T) { // P3.1
	for _, c := range []struct {
		b    string
		want uint16
	}{
		{"", 0xffff}, {"123456789", 0x29b1}, {"A", 0xb915},
		{"\x00", 0xe1f0}, {"\xff", 0xff00}, {"\x00\x00", 0x1d0f}, {"\xff\xff", 0},
	} {
		if got := Sum([]byte(c.b)...); got != c.want {
			t.Errorf("Sum(%q): %04x, not %04x", c.b, got, c.want)
		}
	}
}

func TestGoesOnFromKnownSums(t *testing.T) { // P3.1
	for _, c := range []struct {
		sum  uint16
		b    string
		want uint16
	}{
		{0, "", 0}, {1, "", 1}, {0x8000, "", 0x8000}, {0xffff, "", 0xffff}, {0x1234, "", 0x1234},
		// The byte's bits are turned in the highest eight of the sum.
		{0, "\x00", 0}, {0, "\x01", 0x1021}, {0, "\x80", 0x9188}, {0, "\xff", 0x1ef0},
		{1, "\x00", 0x0100}, {1, "\x01", 0x1121}, {0x8000, "\x00", 0x9188}, {0x8000, "\x80", 0}, {0x0100, "\x01", 0}, {0xffff, "\xff", 0xff00}, {0xffff, "\x00", 0xe1f0},
		{0, "123456789", 0x31c3}, {0x1d0f, "123456789", 0xe5cc},
	} {
		if got := Goes(c.sum, []byte(c.b)...); got != c.want {
			t.Errorf("Goes(%04x, %q): %04x, not %04x", c.sum, c.b, got, c.want)
		}
	}
}

func TestGoesOfAllBytes(t *testing.T) { // P3.1
	for _, sum := range sumEdges() {
		for n := range 256 {
			if got, want := Goes(sum, byte(n)), divided(sum, []byte{byte(n)}); got != want {
				t.Fatalf("Goes(%04x, %02x): %04x, not %04x", sum, n, got, want)
			}
		}
	}
}

func TestGoesOnFromAllSums(t *testing.T) { // P3.1
	for n := range 1 << 16 {
		sum := uint16(n)
		for _, b := range [][]byte{nil, {0}, {0xa5}, {0xff, 0x01}} {
			if got, want := Goes(sum, b...), divided(sum, b); got != want {
				t.Fatalf("Goes(%04x, % x): %04x, not %04x", sum, b, got, want)
			}
		}
	}
}

func TestGoesAndSumOfManyBytes(t *testing.T) { // P3.1
	for _, row := range rows() {
		for _, sum := range sumEdges() {
			if got, want := Goes(sum, row...), divided(sum, row); got != want {
				t.Fatalf("Goes(%04x, %d bytes): %04x, not %04x", sum, len(row), got, want)
			}
		}
		if got, want := Sum(row...), divided(0xffff, row); got != want {
			t.Fatalf("Sum(%d bytes): %04x, not %04x", len(row), got, want)
		}
	}
}

func TestPartsOneBehindTheOther(t *testing.T) { // P3.1
	for _, row := range rows() {
		step := 1 + len(row)/64
		for cut := 0; cut <= len(row); cut += step {
			if got, want := Goes(Sum(row[:cut]...), row[cut:]...), Sum(row...); got != want {
				t.Fatalf("%d bytes, and %d behind them: %04x, not %04x", cut, len(row)-cut, got, want)
			}
			for _, sum := range sumEdges() {
				if got, want := Goes(Goes(sum, row[:cut]...), row[cut:]...), Goes(sum, row...); got != want {
					t.Fatalf("from %04x, %d bytes, and %d behind them: %04x, not %04x", sum, cut, len(row)-cut, got, want)
				}
			}
		}
	}
}

func TestSealOfKnownBytes(t *testing.T) { // P3.1
	for _, c := range []struct{ b, want string }{
		{"", "\xff\xff"}, {"123456789", "123456789\x29\xb1"}, {"A", "A\xb9\x15"}, {"\x00", "\x00\xe1\xf0"}, {"\xff\xff", "\xff\xff\x00\x00"},
	} {
		if got := Seal([]byte(c.b)...); string(got) != c.want {
			t.Errorf("Seal(%q): % x", c.b, got)
		}
	}
}

func TestSealOfAllRows(t *testing.T) { // P3.1
	for _, row := range rows() {
		sum := divided(0xffff, row)
		want := append(append([]byte{}, row...), byte(sum>>8), byte(sum))
		if got := Seal(row...); !bytes.Equal(got, want) {
			t.Fatalf("Seal(%d bytes): %d bytes, with another sum or other bytes", len(row), len(got))
		}
	}
}

func TestOpenOfKnownBytes(t *testing.T) { // P3.1
	for _, c := range []struct{ b, want string }{
		{"\xff\xff", ""}, {"123456789\x29\xb1", "123456789"}, {"A\xb9\x15", "A"}, {"\x00\xe1\xf0", "\x00"}, {"\xff\xff\x00\x00", "\xff\xff"},
	} {
		if got, ok := Open([]byte(c.b)...); string(got) != c.want || !ok {
			t.Errorf("Open(%q): % x, %v", c.b, got, ok)
		}
	}
}

func TestOpenOfTooFewBytes(t *testing.T) { // P3.1
	mustStayShut(t, nil)
	mustStayShut(t, []byte{})
	for n := range 256 {
		mustStayShut(t, []byte{byte(n)})
	}
	// Bytes behind the row's end, though a sum stands there, are none of the row's.
	mustStayShut(t, []byte{0xff, 0xff}[:1])
}

func TestOpenOfTwoBytes(t *testing.T) { // P3.1
	for n := range 0xffff {
		mustStayShut(t, []byte{byte(n >> 8), byte(n)})
	}
	if got, ok := Open(0xff, 0xff); len(got) != 0 || !ok {
		t.Errorf("no bytes: % x, %v", got, ok)
	}
}

func TestOpenOfEveryOtherSum(t *testing.T) { // P3.1
	for _, b := range []string{"A", "123456789", "\x00\x00\x00"} {
		right := divided(0xffff, []byte(b))
		for n := range 1 << 16 {
			if sum := uint16(n); sum != right {
				mustStayShut(t, append([]byte(b), byte(sum>>8), byte(sum)))
			}
		}
	}
}

func TestOpenOfAChangedSum(t *testing.T) { // P3.1
	for _, row := range rows() {
		sum := divided(0xffff, row)
		high, low := byte(sum>>8), byte(sum)
		if high != low {
			mustStayShut(t, append(append([]byte{}, row...), low, high))
		}
		mustStayShut(t, append(append([]byte{}, row...), ^high, ^low))
		mustStayShut(t, append(append([]byte{}, row...), high, low+1))
		mustStayShut(t, append(append([]byte{}, row...), high+1, low))
		// Ahead of the bytes a sum is none.
		if len(row) > 1 {
			mustStayShut(t, append([]byte{high, low}, row...))
		}
	}
}

func TestSealedIsOpened(t *testing.T) { // P3.2
	for _, row := range rows() {
		got, ok := Open(Seal(row...)...)
		if !ok || !bytes.Equal(got, row) {
			t.Fatalf("%d bytes sealed: %d bytes, %v", len(row), len(got), ok)
		}
		// What is sealed twice is opened twice.
		twice, ok := Open(Seal(Seal(row...)...)...)
		if got, again := Open(twice...); !ok || !again || !bytes.Equal(got, row) {
			t.Fatalf("%d bytes sealed twice: %d bytes, %v, %v", len(row), len(got), ok, again)
		}
	}
}

func TestEveryPatternOfTurnedBitsIsTold(t *testing.T) { // P3.2
	for _, row := range [][]byte{nil, {0x5a}, []byte("A0z")} {
		sealed := Seal(row...)
		for place := range 8 * len(sealed) {
			// The lowest bit of each is turned: those without it stand at a place behind.
			for n := 1; n < 1<<16; n += 2 {
				if pattern := uint16(n); place+length(pattern) <= 8*len(sealed) {
					mustStayShut(t, turn(sealed, place, pattern))
				}
			}
		}
	}
}

func TestTurnedBitsOfLongRowsAreTold(t *testing.T) { // P3.2
	for _, row := range [][]byte{[]byte("123456789"), spread(62), make([]byte, 64), bytes.Repeat([]byte{0xff}, 64), spread(700)} {
		sealed := Seal(row...)
		for place := range 8 * len(sealed) {
			for count := 1; count <= 16 && place+count <= 8*len(sealed); count++ {
				all, ends := uint16(1<<count-1), uint16(1|1<<(count-1))
				mustStayShut(t, turn(sealed, place, all))
				mustStayShut(t, turn(sealed, place, ends))
				mustStayShut(t, turn(sealed, place, ends|all&0x5a6c))
			}
		}
	}
}

func TestTurnedBitsAtTheRowsEdges(t *testing.T) { // P3.2
	for _, row := range rows() {
		sealed := Seal(row...)
		bits := 8 * len(sealed)
		for count := 1; count <= 16; count++ {
			all := uint16(1<<count - 1)
			// The first bits, those across the sum's first one, and the last ones.
			for _, place := range []int{0, bits - 16 - count/2, bits - 16, bits - count} {
				if place >= 0 && place+count <= bits {
					mustStayShut(t, turn(sealed, place, all))
				}
			}
		}
	}
}

// roomy lays a row into the midst of a longer one, and answers both: the row has spare room, of bytes that aren't 0.
func roomy(row []byte) ([]byte, []byte) {
	long := bytes.Repeat([]byte{0xc3}, len(row)+24)
	copy(long[8:], row)
	return long[8 : 8+len(row)], long
}

func TestWhatIsHandedInStays(t *testing.T) { // P3.1
	for _, row := range append(rows(), Seal(), Seal('A'), Seal(spread(62)...)) {
		b, long := roomy(row)
		was := append([]byte{}, long...)
		Goes(7, b...)
		Sum(b...)
		Seal(b...)
		Open(b...)
		if !bytes.Equal(long, was) {
			t.Fatalf("%d bytes were changed, or the room behind them", len(row))
		}
	}
}

// mustBeNew fails if writing into an answer, spare room included, is seen in what was handed in, or the other way round.
func mustBeNew(t *testing.T, answer, long []byte) {
	t.Helper()
	said, was := append([]byte{}, answer...), append([]byte{}, long...)
	room := answer[:cap(answer)]
	for place := range room {
		room[place] ^= 0xff
	}
	if !bytes.Equal(long, was) {
		t.Fatalf("writing into an answer of %d bytes is seen in what was handed in", len(answer))
	}
	copy(answer, said)
	for place := range long {
		long[place] ^= 0xff
	}
	if !bytes.Equal(answer, said) {
		t.Fatalf("writing into what was handed in is seen in an answer of %d bytes", len(answer))
	}
	copy(long, was)
}

func TestAnswersAreNewMemory(t *testing.T) { // P3.1
	for _, row := range rows() {
		b, long := roomy(row)
		first := Seal(b...)
		mustBeNew(t, first, long)
		mustBeNew(t, first, Seal(b...))

		sealed, long := roomy(first)
		opened, ok := Open(sealed...)
		again, _ := Open(sealed...)
		if !ok {
			t.Fatalf("%d bytes sealed aren't opened", len(row))
		}
		mustBeNew(t, opened, long)
		mustBeNew(t, opened, again)
	}
}
