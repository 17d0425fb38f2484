package frame

import (
	"bytes"
	"math"
	"testing"

	"angelus/api"
	"angelus/crc"
)

// shape is a kind of frames, written out from the chapter's table: its number, how many bytes each field takes, and a frame with such fields.
type shape struct {
	number byte
	sizes  []int
	with   func(n []int) Frame
}

func shapes() []shape {
	return []shape{
		{1, []int{1, 1, 2, 2, 1, 8}, func(n []int) Frame {
			return Sync{From: n[0], Root: n[1], Boot: uint16(n[2]), Seq: uint16(n[3]), Hops: n[4], Time: n[5]}
		}},
		{2, []int{1, 1}, func(n []int) Frame { return Find{From: n[0], Level: n[1]} }},
		{3, []int{1}, func(n []int) Frame { return Want{From: n[0]} }},
		{4, []int{1, 1, 8}, func(n []int) Frame { return Pulse{From: n[0], To: n[1], Sent: n[2]} }},
		{5, []int{1, 1, 8, 8, 8, 1, 2, 1}, func(n []int) Frame {
			return Reply{From: n[0], To: n[1], Sent: n[2], Got: n[3], Back: n[4], Root: n[5], Boot: uint16(n[6]), Hops: n[7]}
		}},
		{6, []int{1, 2, 1, 2, 8, 8}, func(n []int) Frame {
			return Anchor{From: n[0], Seq: uint16(n[1]), Root: n[2], Boot: uint16(n[3]), Global: n[4], Tai: n[5]}
		}},
	}
}

// length is how many bytes a frame of a shape has.
func (s shape) length() int {
	count := 3
	for _, size := range s.sizes {
		count += size
	}
	return count
}

// greatest is the greatest number that a field of a size may be.
func greatest(size int) int { return map[int]int{1: 63, 2: 65535, 8: 1 << 50}[size] }

// sumOf is a sum of bytes, found another way than by shifts: the row of bits, behind ffff turned in at its head, is divided by x^16 + x^12 + x^5 + 1.
func sumOf(b []byte) []byte {
	row := make([]bool, 8*len(b)+16)
	for place := range 8 * len(b) {
		row[place] = b[place/8]&(0x80>>(place%8)) != 0
	}
	for place := range 16 {
		row[place] = !row[place]
	}
	for place := range 8 * len(b) {
		if row[place] {
			for _, behind := range []int{0, 4, 11, 16} {
				row[place+behind] = !row[place+behind]
			}
		}
	}
	sum := make([]byte, 2)
	for place, bit := range row[8*len(b):] {
		if bit {
			sum[place/8] |= 0x80 >> (place % 8)
		}
	}
	return sum
}

// sealed is bytes, and a right sum behind them.
func sealed(b ...byte) []byte { return append(append([]byte{}, b...), sumOf(b)...) }

// laid is the bytes of a shape with fields, whether they may be, or not: their lowest bytes.
func (s shape) laid(n []int) []byte {
	list := []byte{s.number}
	for place, size := range s.sizes {
		for left := size - 1; left >= 0; left-- {
			list = append(list, byte(uint64(n[place])>>(8*left)))
		}
	}
	return sealed(list...)
}

// seen is what bytes have to be decoded to, by the chapter's sentence.
func seen(b []byte) (Frame, api.Errno) {
	if len(b) > 64 {
		return nil, 5
	}
	for _, s := range shapes() {
		if len(b) != s.length() || b[0] != s.number {
			continue
		}
		if !bytes.Equal(b, sealed(b[:len(b)-2]...)) {
			return nil, 4
		}
		place, list := 1, []int{}
		for _, size := range s.sizes {
			n := uint64(0)
			for range size {
				n = n*256 + uint64(b[place])
				place++
			}
			if n > uint64(greatest(size)) {
				return nil, 3
			}
			list = append(list, int(n))
		}
		return s.with(list), 0
	}
	return nil, 3
}

// random is a row of numbers without a rule, the same in each run.
type random uint64

func (r *random) next() uint64 {
	*r ^= *r << 13
	*r ^= *r >> 7
	*r ^= *r << 17
	return uint64(*r)
}

// fields are numbers that a shape's fields may be, without a rule; now and then the edges.
func (r *random) fields(s shape) []int {
	list := []int{}
	for _, size := range s.sizes {
		n := int(r.next() % uint64(greatest(size)+1))
		switch r.next() % 8 {
		case 0:
			n = 0
		case 1:
			n = greatest(size)
		}
		list = append(list, n)
	}
	return list
}

// grounds are fields beside which one is looked at: all 0, all the greatest, and such without a rule.
func grounds(s shape) [][]int {
	least, most := make([]int, len(s.sizes)), []int{}
	for _, size := range s.sizes {
		most = append(most, greatest(size))
	}
	r := random(s.number) + 0x9e3779b97f4a7c15
	return [][]int{least, most, r.fields(s), r.fields(s), r.fields(s)}
}

// put is a copy of a list with another number at a place.
func put(list []int, place, n int) []int {
	list = append([]int{}, list...)
	list[place] = n
	return list
}

// mustBe fails unless a frame can be, has these bytes, and they are decoded to it.
func mustBe(t *testing.T, f Frame, want []byte) {
	t.Helper()
	if !Good(f) {
		t.Fatalf("%#v can't be", f)
	}
	got, code := Encode(f)
	if code != api.OK || !bytes.Equal(got, want) {
		t.Fatalf("%#v: % x, %d, not % x", f, got, code, want)
	}
	mustTell(t, want, f, api.OK)
}

// mustNotBe fails unless a frame can't be, and has no bytes.
func mustNotBe(t *testing.T, f Frame) {
	t.Helper()
	if Good(f) {
		t.Fatalf("%#v can be", f)
	}
	if got, code := Encode(f); len(got) != 0 || code != api.ErrArg {
		t.Fatalf("%#v: % x, %d", f, got, code)
	}
}

// mustTell fails unless bytes are decoded to a frame, or to none and an error.
func mustTell(t *testing.T, b []byte, want Frame, code api.Errno) {
	t.Helper()
	if got, e := Decode(b...); got != want || e != code {
		t.Fatalf("% x: %#v, %d, not %#v, %d", b, got, e, want, code)
	}
}

func TestKnownFrames(t *testing.T) { // P5.1
	for _, c := range []struct {
		f    Frame
		want string
	}{
		{Want{From: 5}, "\x03\x05"}, {Want{}, "\x03\x00"}, {Want{From: 63}, "\x03\x3f"},
		{Find{From: 7, Level: 63}, "\x02\x07\x3f"},
		{Sync{From: 1, Root: 2, Boot: 0x0304, Seq: 0x0506, Hops: 7, Time: 0x08090a0b0c0d}, "\x01\x01\x02\x03\x04\x05\x06\x07\x00\x00\x08\x09\x0a\x0b\x0c\x0d"},
		{Sync{From: 63, Root: 63, Boot: 65535, Seq: 65535, Hops: 63, Time: 1 << 50}, "\x01\x3f\x3f\xff\xff\xff\xff\x3f\x00\x04\x00\x00\x00\x00\x00\x00"},
		{Pulse{From: 1, To: 2, Sent: 0x030405060708}, "\x04\x01\x02\x00\x00\x03\x04\x05\x06\x07\x08"},
		{Reply{From: 1, To: 2, Sent: 3, Got: 0x0100, Back: 0x010000, Root: 6, Boot: 0x0708, Hops: 9}, "\x05\x01\x02\x00\x00\x00\x00\x00\x00\x00\x03\x00\x00\x00\x00\x00\x00\x01\x00\x00\x00\x00\x00\x00\x01\x00\x00\x06\x07\x08\x09"},
		{Anchor{From: 1, Seq: 0x0203, Root: 4, Boot: 0x0506, Global: 7, Tai: 0x0800}, "\x06\x01\x02\x03\x04\x05\x06\x00\x00\x00\x00\x00\x00\x00\x07\x00\x00\x00\x00\x00\x00\x08\x00"},
	} {
		mustBe(t, c.f, sealed([]byte(c.want)...))
	}
	// The chapter's example, with its sum as a number.
	mustBe(t, Want{From: 5}, []byte{3, 5, 0x18, 0xf9})
}

func TestSenderAnswersFrom(t *testing.T) { // P5.1
	for _, from := range []int{0, 1, 5, 62, 63, 64, -1, math.MaxInt, math.MinInt} {
		for _, s := range shapes() {
			for _, ground := range grounds(s) {
				// Whether it can be, or not.
				if f := s.with(put(ground, 0, from)); f.Sender() != from {
					t.Errorf("%#v: %d", f, f.Sender())
				}
			}
		}
	}
}

func TestEveryFieldThatMayBe(t *testing.T) { // P5.1, P5.2
	for _, s := range shapes() {
		for _, ground := range grounds(s) {
			mustBe(t, s.with(ground), s.laid(ground))
			for place, size := range s.sizes {
				most := greatest(size)
				for _, n := range []int{0, 1, 2, 31, 62, 63, most / 256, most / 2, most - 2, most - 1, most} {
					list := put(ground, place, n)
					mustBe(t, s.with(list), s.laid(list))
				}
			}
		}
	}
}

func TestAllNumbersOfNodesHopsAndMarks(t *testing.T) { // P5.1, P5.2
	for _, s := range shapes() {
		ground := grounds(s)[2]
		for place, size := range s.sizes {
			if size == 8 {
				continue
			}
			for n := 0; n <= greatest(size); n += size * size {
				list := put(ground, place, n)
				mustBe(t, s.with(list), s.laid(list))
			}
		}
	}
}

func TestOneFieldThatMayNotBe(t *testing.T) { // P5.1
	for _, s := range shapes() {
		for _, ground := range grounds(s) {
			for place, size := range s.sizes {
				if size == 2 {
					// No number of its type is too great.
					continue
				}
				most := greatest(size)
				for _, n := range []int{most + 1, most + 2, most * 2, -1, -2, -most, -most - 1, math.MaxInt, math.MaxInt - 1, math.MinInt, math.MinInt + 1, math.MinInt + 5, -1 << 56, -1<<56 + 5, 1 << 56, 1<<62 + 5} {
					mustNotBe(t, s.with(put(ground, place, n)))
				}
				if size == 1 {
					// Of these the lowest byte may be.
					for _, n := range []int{64, 65, 127, 128, 255, 256, 256 + 5, 65536, 1 << 32, 1 << 50} {
						mustNotBe(t, s.with(put(ground, place, n)))
					}
				}
			}
		}
	}
}

func TestTwoFieldsThatMayNotBe(t *testing.T) { // P5.1
	for _, s := range shapes() {
		ground := grounds(s)[2]
		for first, size := range s.sizes {
			for second := range first {
				if size != 2 && s.sizes[second] != 2 {
					mustNotBe(t, s.with(put(put(ground, first, greatest(size)+1), second, -1)))
					mustNotBe(t, s.with(put(put(ground, first, -1), second, greatest(s.sizes[second])+1)))
				}
			}
		}
	}
}

// loud is no kind of frames, and isn't to be asked.
type loud struct{}

func (loud) Sender() int { panic("asked") }

// numbered is no kind of frames, though it has a sender.
type numbered int

func (n numbered) Sender() int { return int(n) }

// listed is no kind of frames, and can't be held against another one.
type listed []int

func (listed) Sender() int { return 5 }

// wider is no kind of frames, though it has all that one has.
type wider struct{ Want }

// hollow is no kind of frames, though it is handed in as one that may hold another.
type hollow struct{ Frame }

func TestWhatIsNoFrame(t *testing.T) { // P5.1
	sync, find, want, pulse, reply, anchor := Sync{From: 1}, Find{From: 1}, Want{From: 1}, Pulse{From: 1}, Reply{From: 1}, Anchor{From: 1}
	for _, f := range []Frame{
		nil, &sync, &find, &want, &pulse, &reply, &anchor,
		(*Sync)(nil), (*Find)(nil), (*Want)(nil), (*Pulse)(nil), (*Reply)(nil), (*Anchor)(nil),
		loud{}, &loud{}, numbered(0), numbered(3), listed(nil), listed{3, 5}, wider{want}, &wider{want}, hollow{}, hollow{want}, (*hollow)(nil),
	} {
		mustNotBe(t, f)
	}
	for _, f := range []Frame{sync, find, want, pulse, reply, anchor} {
		if !Good(f) {
			t.Errorf("%#v can't be", f)
		}
	}
}

func TestNoBytesAndTooMany(t *testing.T) { // P5.1
	mustTell(t, nil, nil, api.ErrForm)
	mustTell(t, []byte{}, nil, api.ErrForm)
	mustTell(t, []byte{3, 5}[:0], nil, api.ErrForm)
	for _, count := range []int{65, 66, 128, 255, 256, 257, 289, 1000, 65536 + 4, 1 << 20} {
		mustTell(t, make([]byte, count), nil, api.ErrLong)
		for _, s := range shapes() {
			// Too many are told ahead of all else, be the kind, the sum and the frame at the beginning right or wrong.
			b := make([]byte, count-2)
			copy(b, s.laid(grounds(s)[2]))
			mustTell(t, sealed(b...), nil, api.ErrLong)
			b[0] = 7
			mustTell(t, sealed(b...), nil, api.ErrLong)
		}
	}
}

func TestEveryKindsNumberWithEveryCount(t *testing.T) { // P5.1
	sizes := map[int]int{1: 18, 2: 5, 3: 4, 4: 13, 5: 33, 6: 25}
	for number := range 256 {
		for count := 1; count <= 70; count++ {
			b := make([]byte, max(1, count-2))
			b[0] = byte(number)
			right := b
			if count > 2 {
				right = sealed(b...)
			} else if count == 2 {
				right = append(b, 0)
			}
			got, code := Decode(right...)
			switch {
			case count > 64:
				if got != nil || code != api.ErrLong {
					t.Fatalf("kind %d, %d bytes: %#v, %d", number, count, got, code)
				}
			case sizes[number] != count:
				if got != nil || code != api.ErrForm {
					t.Fatalf("kind %d, %d bytes: %#v, %d", number, count, got, code)
				}
			default:
				s := shapes()[number-1]
				mustTell(t, right, s.with(make([]int, len(s.sizes))), api.OK)
			}
		}
	}
}

func TestOneByteTooFewAndOneTooMany(t *testing.T) { // P5.1
	for _, s := range shapes() {
		for _, ground := range grounds(s) {
			b := s.laid(ground)
			for count := range b {
				mustTell(t, b[:count], nil, api.ErrForm)
			}
			for _, next := range []byte{0, 1, 255} {
				mustTell(t, append(append([]byte{}, b...), next), nil, api.ErrForm)
				mustTell(t, append([]byte{next}, b...), nil, api.ErrForm)
			}
			// With a sum that is right, too: of a frame whose last field is cut, of one behind which more stands, and of a sealed one.
			for count := 1; count < len(b)-2; count++ {
				mustTell(t, sealed(b[:count]...), nil, api.ErrForm)
			}
			mustTell(t, sealed(append(append([]byte{}, b[:len(b)-2]...), 0)...), nil, api.ErrForm)
			mustTell(t, sealed(b...), nil, api.ErrForm)
			mustTell(t, append(append([]byte{}, b...), make([]byte, 64-len(b))...), nil, api.ErrForm)
			mustTell(t, append(append([]byte{}, b...), make([]byte, 65-len(b))...), nil, api.ErrLong)
		}
	}
}

func TestEveryOtherSum(t *testing.T) { // P5.1
	for _, s := range shapes() {
		b := s.laid(grounds(s)[2])
		end := len(b) - 2
		right := int(b[end])<<8 | int(b[end+1])
		for sum := range 1 << 16 {
			if sum != right {
				b[end], b[end+1] = byte(sum>>8), byte(sum)
				mustTell(t, b, nil, api.ErrSum)
			}
		}
	}
}

func TestSumThatIsRightOfOtherBytesOrInAnotherOrder(t *testing.T) { // P5.1
	for _, s := range shapes() {
		for _, ground := range grounds(s) {
			b := s.laid(ground)
			end := len(b) - 2
			for _, sum := range [][]byte{{b[end+1], b[end]}, {^b[end], ^b[end+1]}, sumOf(b[1:end]), sumOf(b[:end-1])} {
				if !bytes.Equal(sum, b[end:]) {
					mustTell(t, append(append([]byte{}, b[:end]...), sum...), nil, api.ErrSum)
				}
			}
		}
	}
}

// tooGreat are numbers that a field of a size can hold and mayn't be.
func tooGreat(size int) []uint64 {
	switch size {
	case 1:
		return []uint64{64, 65, 127, 128, 192, 255}
	case 8:
		return []uint64{1<<50 + 1, 1<<50 + 2, 1 << 51, 1<<56 + 5, 1 << 62, 1<<63 - 1, 1 << 63, 1<<63 + 5, 1<<64 - 5, 1<<64 - 1}
	}
	return nil
}

func TestFieldThatIsGreaterThanItMayBe(t *testing.T) { // P5.1
	for _, s := range shapes() {
		for _, ground := range grounds(s) {
			for place, size := range s.sizes {
				for _, n := range tooGreat(size) {
					b := s.laid(put(ground, place, int(n)))
					mustTell(t, b, nil, api.ErrForm)
					// Another sum is told ahead of the field, the count of the bytes ahead of the sum, and too many ahead of all.
					wrong := append([]byte{}, b...)
					wrong[len(b)-1] ^= 1
					mustTell(t, wrong, nil, api.ErrSum)
					mustTell(t, wrong[:len(b)-1], nil, api.ErrForm)
					mustTell(t, append(wrong, make([]byte, 65-len(b))...), nil, api.ErrLong)
				}
			}
		}
	}
}

func TestTwoFieldsThatAreGreaterThanTheyMayBe(t *testing.T) { // P5.1
	for _, s := range shapes() {
		ground := grounds(s)[2]
		for first, size := range s.sizes {
			for second := range first {
				for _, a := range tooGreat(size) {
					for _, b := range tooGreat(s.sizes[second]) {
						mustTell(t, s.laid(put(put(ground, first, int(a)), second, int(b))), nil, api.ErrForm)
					}
				}
			}
		}
	}
}

func TestSpreadBytesAreToldByTheSentence(t *testing.T) { // P5.1, P5.2
	r, good, refused := random(5), 0, map[api.Errno]int{}
	for range 200000 {
		s := shapes()[r.next()%6]
		b := s.laid(r.fields(s))
		for range r.next() % 4 {
			b[r.next()%uint64(len(b))] = byte(r.next())
		}
		switch r.next() % 8 {
		case 0:
			b = b[:r.next()%uint64(len(b)+1)]
		case 1:
			b = append(b, make([]byte, r.next()%70)...)
		case 2, 3, 4, 5:
			b = sealed(b[:len(b)-2]...)
		}
		want, code := seen(b)
		mustTell(t, b, want, code)
		refused[code]++
		if code == api.OK {
			good++
			mustBe(t, want, b)
		}
	}
	if good < 10000 || refused[api.ErrForm] < 10000 || refused[api.ErrSum] < 10000 || refused[api.ErrLong] < 1000 {
		t.Errorf("%d frames, refused %v: too few to tell", good, refused)
	}
}

func TestWhatIsEncodedIsDecoded(t *testing.T) { // P5.2
	r := random(7)
	for range 50000 {
		for _, s := range shapes() {
			list := r.fields(s)
			f := s.with(list)
			b, code := Encode(f)
			if code != api.OK || len(b) != s.length() {
				t.Fatalf("%#v: % x, %d", f, b, code)
			}
			got, code := Decode(b...)
			if code != api.OK || got != f {
				t.Fatalf("%#v comes back as %#v, %d", f, got, code)
			}
			again, code := Encode(got)
			if code != api.OK || !bytes.Equal(again, b) {
				t.Fatalf("%#v: % x, then % x, %d", f, b, again, code)
			}
		}
	}
}

func TestFramesOfTwoKindsHaveOtherBytes(t *testing.T) { // P5.2
	all := map[string]Frame{}
	for _, s := range shapes() {
		r := random(s.number)
		for range 3000 {
			f := s.with(r.fields(s))
			b, _ := Encode(f)
			if before := all[string(b)]; before != nil && before != f {
				t.Fatalf("%#v and %#v have the same bytes", before, f)
			}
			all[string(b)] = f
		}
	}
}

// turn answers a copy of bytes with the bits of a pattern turned, its lowest bit at a place, the others behind that.
func turn(b []byte, place int, pattern uint16) []byte {
	list := append([]byte{}, b...)
	for ; pattern != 0; place, pattern = place+1, pattern>>1 {
		if pattern&1 == 1 {
			list[place/8] ^= 0x80 >> (place % 8)
		}
	}
	return list
}

// width is how many bits in a row a pattern takes.
func width(pattern uint16) int {
	count := 0
	for ; pattern != 0; pattern >>= 1 {
		count++
	}
	return count
}

// mustNotTell fails if bytes with a pattern of turned bits are decoded, or refused as too long.
func mustNotTell(t *testing.T, b []byte, place int, pattern uint16) {
	t.Helper()
	got, code := Decode(turn(b, place, pattern)...)
	if got != nil || code != api.ErrSum && code != api.ErrForm {
		t.Fatalf("% x with %b turned at bit %d: %#v, %d", b, pattern, place, got, code)
	}
	// Where the kind stays, so does the count of the bytes: it's the sum that tells.
	if place >= 8 && code != api.ErrSum {
		t.Fatalf("% x with %b turned at bit %d: error %d", b, pattern, place, code)
	}
}

func TestEveryPatternOfTurnedBitsInShortFrames(t *testing.T) { // P5.3
	for _, f := range []Frame{Want{From: 5}, Find{From: 63, Level: 0}} {
		b, _ := Encode(f)
		for place := range 8 * len(b) {
			for pattern := 1; pattern < 1<<16; pattern += 2 {
				if place+width(uint16(pattern)) <= 8*len(b) {
					mustNotTell(t, b, place, uint16(pattern))
				}
			}
		}
	}
}

func TestEveryPatternOfTurnedBitsAtBothEndsAndAcrossTheSum(t *testing.T) { // P5.3
	for _, s := range shapes() {
		b, _ := Encode(s.with(grounds(s)[2]))
		for pattern := 1; pattern < 1<<16; pattern += 2 {
			bits := width(uint16(pattern))
			mustNotTell(t, b, 0, uint16(pattern))
			mustNotTell(t, b, 8*len(b)-bits, uint16(pattern))
			// Half of it in the last field, half in the sum.
			mustNotTell(t, b, 8*len(b)-16-bits/2, uint16(pattern))
		}
	}
}

func TestTurnedBitsAtEveryPlace(t *testing.T) { // P5.3
	r := random(11)
	for _, s := range shapes() {
		for _, ground := range grounds(s) {
			b, _ := Encode(s.with(ground))
			for place := range 8 * len(b) {
				patterns := []uint16{1, 3, 5, 0x8001, 0xffff, 0x1021, 0x8811, 0x8408, 0x0811, 0x5555, 0x0101, 0x00ff, 0xff01}
				for range 20 {
					patterns = append(patterns, uint16(r.next())|1)
				}
				for _, pattern := range patterns {
					for place+width(pattern) > 8*len(b) {
						pattern = pattern>>1 | 1
					}
					mustNotTell(t, b, place, pattern)
				}
			}
		}
	}
}

// scratch turns every byte of an answer, those of its spare room included.
func scratch(b []byte) {
	b = b[:cap(b)]
	for place := range b {
		b[place] ^= 0xff
	}
}

func TestBytesAreNewMemory(t *testing.T) { // P5.1
	for _, s := range shapes() {
		for _, ground := range grounds(s) {
			f, want := s.with(ground), s.laid(ground)
			early, _ := Encode(f)
			next, _ := Encode(f)
			scratch(next)
			if !bytes.Equal(early, want) {
				t.Fatalf("%#v: what is written into an answer is seen in an earlier one", f)
			}
			scratch(early)
			mustBe(t, f, want)
		}
	}
}

func TestBytesHandedInStayAndAreNotKept(t *testing.T) { // P5.1
	r := random(13)
	for _, s := range shapes() {
		for _, ground := range grounds(s) {
			whole := s.laid(ground)
			for _, count := range []int{len(whole), len(whole) - 1, 1, 0} {
				// The spare room holds bytes that aren't the frame's.
				long := append(append([]byte{}, whole...), make([]byte, 80)...)
				for place := len(whole); place < len(long); place++ {
					long[place] = byte(r.next())
				}
				was := append([]byte{}, long...)
				got, code := Decode(long[:count]...)
				if !bytes.Equal(long, was) {
					t.Fatalf("% x was changed, or the room behind it", was[:count])
				}
				scratch(long)
				want, wanted := seen(was[:count])
				if got != want || code != wanted {
					t.Fatalf("% x: %#v, %d", was[:count], got, code)
				}
			}
		}
	}
}

func TestFramesHandedInStay(t *testing.T) { // P5.1
	for _, s := range shapes() {
		for _, ground := range append(grounds(s), put(grounds(s)[2], 0, -1), put(grounds(s)[2], 0, 64)) {
			f := s.with(ground)
			Good(f)
			Encode(f)
			f.Sender()
			if f != s.with(ground) {
				t.Fatalf("%#v was changed", f)
			}
		}
	}
}

func TestSumIsLayer3s(t *testing.T) { // P5.1
	for _, s := range shapes() {
		for _, ground := range grounds(s) {
			b, _ := Encode(s.with(ground))
			told, ok := crc.Open(b...)
			if !ok || !bytes.Equal(crc.Seal(told...), b) {
				t.Fatalf("% x isn't sealed", b)
			}
		}
	}
}
