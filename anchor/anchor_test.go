package anchor

import (
	"math"
	"math/big"
	"testing"

	"angelus/api"
	"angelus/frame"
	"angelus/leap"
	"angelus/source"
	"angelus/utc"
)

const (
	least    = math.MinInt
	greatest = math.MaxInt
	top      = 1 << 50 // the greatest time
)

// spread tells numbers that look as if drawn, the same ones every time.
type spread uint64

func (s *spread) next() uint64 {
	*s = *s*6364136223846793005 + 1442695040888963407
	return uint64(*s >> 11)
}

// between is one of the numbers from low to high, both meant.
func (s *spread) between(low, high int) int {
	return low + int(s.next()%uint64(high-low+1))
}

// of is one of some numbers.
func (s *spread) of(numbers ...int) int {
	return numbers[s.between(0, len(numbers)-1)]
}

// edges are numbers about those from which on, and up to which, times and seconds can be.
func edges() []int {
	return []int{least, least + 1, least + top, -1 << 62, -2 * top, -top - 1, -top, -top + 1, -1 << 32, -1001, -1000, -999, -1, 0, 1, 2, 999, 1000, 1001, 1 << 32, top / 2, top - 1000, top - 1, top, top + 1, top + 1000, 2 * top, 1 << 62, greatest - top, greatest - 1, greatest}
}

// nodes are numbers about those from which on, and up to which, nodes have them.
func nodes() []int {
	return []int{least, least + 1, -1 << 32, 3 - 1<<32, -256, -64, -63, -2, -1, 0, 1, 2, 31, 62, 63, 64, 65, 127, 128, 256, 259, 65536, 1 << 32, 1<<32 + 3, greatest - 1, greatest}
}

// time: whether the rules let a number be a time.
func time(n int) bool {
	return n > -1 && n <= 1125899906842624
}

// can: whether the rules let there be such an anchor.
func can(a frame.Anchor) bool {
	return a.From > -1 && a.From < 64 && a.Root > -1 && a.Root < 64 && time(a.Global) && time(a.Tai)
}

// newer: whether the first of two numbers that go round is so, counted as they can be at all.
func newer(a, b uint16) bool {
	ahead := (int(a) - int(b) + 65536) % 65536
	return 1 <= ahead && ahead <= 32767
}

// plain is a book that keeps all anchors since it was dropped, and reckons with numbers of any size.
type plain struct {
	none bool
	list []frame.Anchor
}

func (p *plain) has() (frame.Anchor, bool) {
	if len(p.list) == 0 {
		return frame.Anchor{}, false
	}
	return p.list[len(p.list)-1], true
}

func (p *plain) drop() {
	p.list = nil
}

func (p *plain) hear(a frame.Anchor) bool {
	last, ok := p.has()
	if p.none || !can(a) || ok && !newer(a.Seq, last.Seq) {
		return false
	}
	p.list = append(p.list, a)
	return true
}

func (p *plain) make(me int, t source.Answer, tai int) (frame.Anchor, api.Errno) {
	if p.none {
		return frame.Anchor{}, api.ErrNil
	}
	a := frame.Anchor{From: me, Seq: 1, Root: t.Whose.Root, Boot: t.Whose.Boot, Global: t.Time, Tai: tai}
	if last, ok := p.has(); ok {
		a.Seq = uint16((int(last.Seq) + 1) % 65536)
	}
	if !can(a) {
		return frame.Anchor{}, api.ErrArg
	}
	p.list = append(p.list, a)
	return a, api.OK
}

// of is the anchor by which a root's time is reckoned, or why there is none.
func (p *plain) of(w source.Whose) (frame.Anchor, api.Errno) {
	last, ok := p.has()
	switch {
	case p.none:
		return last, api.ErrNil
	case !ok:
		return last, api.ErrNone
	case w != source.Whose{Root: last.Root, Boot: last.Boot}:
		return last, api.ErrUnsync
	}
	return last, api.OK
}

func (p *plain) tai(w source.Whose, at int) (Moment, api.Errno) {
	a, code := p.of(w)
	if code != api.OK {
		return Moment{}, code
	}
	if !time(at) {
		return Moment{}, api.ErrOver
	}
	// Of a divisor above 0 the rest of DivMod is never below 0, so that the quotient is rounded down.
	ticks := new(big.Int).Sub(big.NewInt(int64(at)), big.NewInt(int64(a.Global)))
	seconds, rest := new(big.Int).DivMod(ticks, big.NewInt(1000), new(big.Int))
	seconds.Add(seconds, big.NewInt(int64(a.Tai)))
	return Moment{Tai: int(seconds.Int64()), Ticks: int(rest.Int64())}, api.OK
}

func (p *plain) utc(r *leap.Table, w source.Whose, at int) (utc.Utc, int, api.Errno) {
	m, code := p.tai(w, at)
	if code != api.OK {
		return utc.Utc{}, 0, code
	}
	u, code := utc.Of(r, m.Tai)
	if code != api.OK {
		return utc.Utc{}, 0, code
	}
	return u, m.Ticks, api.OK
}

func (p *plain) time(w source.Whose, tai int) (int, api.Errno) {
	a, code := p.of(w)
	if code != api.OK {
		return 0, code
	}
	at := new(big.Int).Sub(big.NewInt(int64(tai)), big.NewInt(int64(a.Tai)))
	at.Mul(at, big.NewInt(1000)).Add(at, big.NewInt(int64(a.Global)))
	if tai < -top || tai > top || !at.IsInt64() || !time(int(at.Int64())) {
		return 0, api.ErrOver
	}
	return int(at.Int64()), api.OK
}

// isTai, isUtc and isTime fail, unless a call answers what the plain book does.
func isTai(t testing.TB, b *Book, p *plain, w source.Whose, at int) {
	t.Helper()
	m, e := b.Tai(w, at)
	if want, code := p.tai(w, at); m != want || e != code {
		t.Fatalf("%v: Tai(%v, %d): %v, %d; and not %v, %d", p.list, w, at, m, e, want, code)
	}
}

func isUtc(t testing.TB, b *Book, p *plain, r *leap.Table, w source.Whose, at int) {
	t.Helper()
	u, k, e := b.Utc(r, w, at)
	if want, ticks, code := p.utc(r, w, at); u != want || k != ticks || e != code {
		t.Fatalf("%v: Utc(%q, %v, %d): %v, %d, %d; and not %v, %d, %d", p.list, r.Text(), w, at, u, k, e, want, ticks, code)
	}
}

func isTimeOf(t testing.TB, b *Book, p *plain, w source.Whose, tai int) {
	t.Helper()
	n, e := b.Time(w, tai)
	if want, code := p.time(w, tai); n != want || e != code {
		t.Fatalf("%v: Time(%v, %d): %d, %d; and not %d, %d", p.list, w, tai, n, e, want, code)
	}
}

// has fails, unless a book has just what the plain one has.
func has(t testing.TB, b *Book, p *plain) {
	t.Helper()
	a, ok := b.Has()
	if want, has := p.has(); a != want || ok != has {
		t.Fatalf("Has: %v, %v; and not %v, %v", a, ok, want, has)
	}
}

// hears and makes do so to both, and fail, unless they answer alike, and have the same behind it.
func hears(t testing.TB, b *Book, p *plain, a frame.Anchor) bool {
	t.Helper()
	was, ok := b.Has()
	is, want := b.Hear(a), p.hear(a)
	if is != want {
		t.Fatalf("%v, %v: Hear(%v): %v", was, ok, a, is)
	}
	has(t, b, p)
	return is
}

func makes(t testing.TB, b *Book, p *plain, me int, s source.Answer, tai int) api.Errno {
	t.Helper()
	was, ok := b.Has()
	a, e := b.Make(me, s, tai)
	if want, code := p.make(me, s, tai); a != want || e != code {
		t.Fatalf("%v, %v: Make(%d, %v, %d): %v, %d; and not %v, %d", was, ok, me, s, tai, a, e, want, code)
	}
	has(t, b, p)
	return e
}

// book is one that heard such an anchor, and a plain one that did, too.
func book(t testing.TB, list ...frame.Anchor) (*Book, *plain) {
	t.Helper()
	b, p := new(Book), new(plain)
	for _, a := range list {
		if !hears(t, b, p, a) {
			t.Fatalf("%v isn't heard", a)
		}
	}
	return b, p
}

// whose is the root of an anchor, in that life.
func whose(a frame.Anchor) source.Whose {
	return source.Whose{Root: a.Root, Boot: a.Boot}
}

// strangers are other roots, other lives, and both, such among them that can't be, and that differ in high bits alone.
func strangers(w source.Whose) []source.Whose {
	var list []source.Whose
	for _, root := range append(nodes(), w.Root, w.Root-1, w.Root+1, w.Root+64, w.Root+256, w.Root+65536, w.Root+1<<32, w.Root^least, -w.Root, ^w.Root) {
		for _, boot := range []uint16{w.Boot, w.Boot + 1, w.Boot - 1, w.Boot + 256, w.Boot + 32768, ^w.Boot, 0, 1, 65535} {
			if x := (source.Whose{Root: root, Boot: boot}); x != w {
				list = append(list, x)
			}
		}
	}
	return list
}

// table is one of layer 21; it fails, if there is none.
func table(t testing.TB, start, ahead, end int, leaps ...leap.Leap) *leap.Table {
	t.Helper()
	r, code := leap.Make(start, ahead, end, leaps...)
	if code != api.OK {
		t.Fatalf("%d, %d, %d, %v: %d", start, ahead, end, leaps, code)
	}
	return r
}

// tables are none, such of a few days and of many, without leaps and with such of each Step.
func tables(t testing.TB) []*leap.Table {
	t.Helper()
	return []*leap.Table{
		nil, table(t, 0, 0, 1), table(t, 17000, 36, 18000, leap.Leap{Day: 17166, Step: 1}), table(t, 17000, 36, 18000, leap.Leap{Day: 17166, Step: -1}),
		table(t, -719162, 99, 2932896), table(t, -3, 2, 4, leap.Leap{Day: -1, Step: -1}, leap.Leap{Day: 0, Step: 1}, leap.Leap{Day: 1, Step: 1}),
	}
}

// asks fails, unless all that a book may be asked is answered as by the plain one: of its root and of others, at times and seconds at the edges, around its anchor, and beyond.
func asks(t testing.TB, b *Book, p *plain) {
	t.Helper()
	has(t, b, p)
	a, _ := p.has()
	times, seconds := edges(), edges()
	for _, off := range []int{-2001, -2000, -1999, -1001, -1000, -999, -500, -1, 0, 1, 500, 999, 1000, 1001, 1999, 2000, 86400000} {
		times = append(times, a.Global+off)
		seconds = append(seconds, a.Tai+off, a.Tai+off-a.Global/1000, a.Tai+off+(top-a.Global)/1000)
	}
	for _, w := range []source.Whose{whose(a), {Root: a.Root + 1, Boot: a.Boot}, {Root: a.Root, Boot: a.Boot + 1}, {Root: 64, Boot: a.Boot + 1}} {
		for _, at := range times {
			isTai(t, b, p, w, at)
			for _, r := range tables(t)[:3] {
				isUtc(t, b, p, r, w, at)
			}
		}
		for _, tai := range seconds {
			isTimeOf(t, b, p, w, tai)
		}
	}
	has(t, b, p)
}

// answer is one of layer 19.
func answer(root int, boot uint16, at int) source.Answer {
	return source.Answer{Time: at, Hops: 2, Whose: source.Whose{Root: root, Boot: boot}, Way: source.Flooded}
}

// some is an anchor as any other.
var some = frame.Anchor{From: 9, Seq: 500, Root: 2, Boot: 7, Global: 5000, Tai: 100}

// P23.1: the chapter's examples.
func TestTheChaptersExamples(t *testing.T) {
	b, _ := book(t, some)
	for at, want := range map[int]Moment{7250: {Tai: 102, Ticks: 250}, 4999: {Tai: 99, Ticks: 999}} {
		if m, e := b.Tai(whose(some), at); m != want || e != api.OK {
			t.Errorf("%d: %v, %d", at, m, e)
		}
	}
}

// bare fails, unless a book has no anchor, or is nil, and answers each call so, whatever else is wrong with it.
func bare(t testing.TB, b *Book, want api.Errno) {
	t.Helper()
	for range 2 {
		if a, ok := b.Has(); a != (frame.Anchor{}) || ok {
			t.Fatalf("%v, %v", a, ok)
		}
		for _, w := range []source.Whose{{}, {Root: 2, Boot: 7}, {Root: -1}, {Root: 64, Boot: 65535}, {Root: least}, {Root: greatest}} {
			for _, n := range edges() {
				if m, e := b.Tai(w, n); m != (Moment{}) || e != want {
					t.Fatalf("Tai(%v, %d): %v, %d", w, n, m, e)
				}
				if at, e := b.Time(w, n); at != 0 || e != want {
					t.Fatalf("Time(%v, %d): %d, %d", w, n, at, e)
				}
				for _, r := range tables(t) {
					if u, k, e := b.Utc(r, w, n); u != (utc.Utc{}) || k != 0 || e != want {
						t.Fatalf("Utc(%q, %v, %d): %v, %d, %d", r.Text(), w, n, u, k, e)
					}
				}
			}
		}
	}
}

// wrong are anchors that can't be, each of one thing alone, and of all.
func wrong() []frame.Anchor {
	var list []frame.Anchor
	for _, n := range []int{-1, 64, least, greatest} {
		list = append(list, frame.Anchor{From: n, Seq: 501, Root: 2, Boot: 7, Global: 5, Tai: 6}, frame.Anchor{From: 9, Seq: 501, Root: n, Boot: 7, Global: 5, Tai: 6})
	}
	for _, n := range []int{-1, top + 1, least, greatest} {
		list = append(list, frame.Anchor{From: 9, Seq: 501, Root: 2, Boot: 7, Global: n, Tai: 6}, frame.Anchor{From: 9, Seq: 501, Root: 2, Boot: 7, Global: 5, Tai: n})
		list = append(list, frame.Anchor{From: n, Seq: 501, Root: n, Boot: 7, Global: n, Tai: n})
	}
	return list
}

// P23.1: a book that never had an anchor.
func TestAnEmptyBook(t *testing.T) {
	bare(t, &Book{}, api.ErrNone)
	bare(t, new(Book), api.ErrNone)
	var b Book
	bare(t, &b, api.ErrNone)
	for _, a := range wrong() {
		if b.Hear(a) {
			t.Fatalf("%v is heard", a)
		}
		if x, e := b.Make(a.From, answer(a.Root, a.Boot, a.Global), a.Tai); x != (frame.Anchor{}) || e != api.ErrArg {
			t.Fatalf("%v: %v, %d", a, x, e)
		}
	}
	b.Drop()
	bare(t, &b, api.ErrNone)
}

// P23.1: a book that heard an anchor, made one, or both, and dropped it: nothing of it is left.
func TestADroppedBook(t *testing.T) {
	for _, made := range []int{0, 1, 2} {
		for _, seq := range []uint16{0, 1, 2, 500, 32767, 32768, 65534, 65535} {
			b, p := new(Book), new(plain)
			for range 3 {
				a := some
				a.Seq = seq
				if made != 1 && !hears(t, b, p, a) {
					t.Fatal("not heard")
				}
				if made != 0 && makes(t, b, p, 3, answer(5, 6, 7000), 8) != api.OK {
					t.Fatal("not made")
				}
				asks(t, b, p)
				b.Drop()
				p.drop()
				bare(t, b, api.ErrNone)
				b.Drop()
				bare(t, b, api.ErrNone)
			}
		}
	}
}

// P23.1: behind Drop any Seq is heard, older ones and the same one among them, and the first one that is made is 1.
func TestWhatComesBehindDrop(t *testing.T) {
	for _, was := range []uint16{0, 1, 2, 499, 500, 501, 32767, 32768, 65534, 65535} {
		for _, seq := range []uint16{0, 1, 2, 499, 500, 501, 32767, 32768, 65534, 65535, was - 1, was + 32768, was + 32767} {
			a := some
			a.Seq = was
			b, p := book(t, a)
			b.Drop()
			p.drop()
			for _, x := range wrong() {
				hears(t, b, p, x)
			}
			a.Seq = seq
			if !hears(t, b, p, a) {
				t.Fatalf("%d behind %d", seq, was)
			}
			b.Drop()
			p.drop()
			if x, e := b.Make(4, answer(1, 2, 3), 5); x != (frame.Anchor{From: 4, Seq: 1, Root: 1, Boot: 2, Global: 3, Tai: 5}) || e != api.OK {
				t.Fatalf("%v, %d", x, e)
			}
		}
	}
}

// P23.1: every call of a nil book, beside each other error, and without one.
func TestANilBook(t *testing.T) {
	var none *Book
	bare(t, none, api.ErrNil)
	for _, a := range append(wrong(), some, frame.Anchor{}, frame.Anchor{Seq: 1}) {
		if none.Hear(a) {
			t.Fatalf("%v is heard", a)
		}
		if x, e := none.Make(a.From, answer(a.Root, a.Boot, a.Global), a.Tai); x != (frame.Anchor{}) || e != api.ErrNil {
			t.Fatalf("%v: %v, %d", a, x, e)
		}
	}
	none.Drop()
	bare(t, none, api.ErrNil)
}

// hearings are books that have no anchor, some, and one that is all zero, and what each would hear.
func hearings(t testing.TB, a frame.Anchor) {
	t.Helper()
	for _, before := range [][]frame.Anchor{nil, {some}, {{}}, {{Seq: 65535, From: 63, Root: 63, Boot: 65535, Global: top, Tai: top}}} {
		b, p := book(t, before...)
		last, _ := p.has()
		a.Seq = last.Seq + 1
		if hears(t, b, p, a) != can(a) {
			t.Fatalf("%v: %v", before, a)
		}
		// Of one that can be, but isn't newer, nothing is kept, and nothing of one that can't be.
		a.Seq = last.Seq + 32769
		if len(before) > 0 && hears(t, b, p, a) {
			t.Fatalf("%v: %v", before, a)
		}
	}
}

// P23.1: of nodes and times at the edges, one beyond, and at the type's ends.
func TestHearOfAnchorsThatCanBe(t *testing.T) {
	for _, n := range nodes() {
		for _, at := range edges() {
			hearings(t, frame.Anchor{From: n, Root: 3, Boot: 65535, Global: at, Tai: 9})
			hearings(t, frame.Anchor{From: 5, Root: n, Boot: 1, Global: 8, Tai: at})
			hearings(t, frame.Anchor{From: n, Root: 0, Global: 0, Tai: at})
			hearings(t, frame.Anchor{From: 63, Root: n, Boot: 32768, Global: at, Tai: top})
		}
		for _, m := range nodes() {
			hearings(t, frame.Anchor{From: n, Root: m, Global: 7, Tai: 9})
		}
	}
	for _, n := range edges() {
		for _, m := range edges() {
			hearings(t, frame.Anchor{From: 5, Root: 3, Boot: 2, Global: n, Tai: m})
		}
	}
	for n := range 64 {
		hearings(t, frame.Anchor{From: n, Root: 63 - n, Boot: uint16(1040 * n)})
	}
}

// P23.1: every Seq, by books that have one about the edges, or any other; who sends it, and of which root it is, plays no part.
func TestHearOfSeqs(t *testing.T) {
	for _, was := range []uint16{0, 1, 2, 255, 256, 257, 500, 32766, 32767, 32768, 32769, 40000, 65534, 65535} {
		a := some
		a.Seq = was
		for _, other := range []frame.Anchor{some, {From: 3, Root: 60, Boot: 1}, {From: 9, Root: 2, Boot: 8, Global: top, Tai: top}} {
			heard := 0
			// Told without the helpers, which are too slow for all of them.
			for seq := range 1 << 16 {
				other.Seq = uint16(seq)
				b, want := Book{}, a
				b.Hear(a)
				is := b.Hear(other)
				if is {
					want = other
					heard++
				}
				if now, ok := b.Has(); is != newer(other.Seq, was) || now != want || !ok {
					t.Fatalf("%v behind %v: %v, %v, %v", other, a, is, now, ok)
				}
			}
			if heard != 32767 {
				t.Fatalf("%d are newer than %d", heard, was)
			}
		}
	}
}

// P23.1: told by hand: around 0 and 2^16 - 1, and half the way round.
func TestHearOfSeqsToldByHand(t *testing.T) {
	for _, x := range []struct {
		was, seq uint16
		is       bool
	}{
		{0, 0, false}, {0, 1, true}, {0, 65535, false}, {0, 32767, true}, {0, 32768, false}, {0, 32769, false},
		{1, 0, false}, {1, 1, false}, {1, 2, true}, {1, 65535, false}, {1, 32768, true}, {1, 32769, false}, {1, 32770, false},
		{65535, 0, true}, {65535, 1, true}, {65535, 65534, false}, {65535, 65535, false}, {65535, 32766, true}, {65535, 32767, false}, {65535, 32768, false},
		{65534, 65535, true}, {65534, 0, true}, {65534, 65533, false}, {65534, 65534, false},
		{32768, 32769, true}, {32768, 32767, false}, {32768, 65535, true}, {32768, 0, false}, {32768, 1, false}, {32767, 65534, true}, {32767, 65535, false}, {32767, 0, false},
		{500, 501, true}, {500, 499, false}, {500, 500, false},
	} {
		a := some
		a.Seq = x.was
		b, _ := book(t, a)
		next := frame.Anchor{From: 1, Seq: x.seq, Root: 1, Boot: 1, Global: 1, Tai: 1}
		want := a
		if x.is {
			want = next
		}
		if is := b.Hear(next); is != x.is {
			t.Errorf("%d behind %d: %v", x.seq, x.was, is)
		}
		if now, ok := b.Has(); now != want || !ok {
			t.Errorf("%d behind %d: %v, %v", x.seq, x.was, now, ok)
		}
	}
}

// P23.1: an anchor that is refused leaves all as it was, of all that is asked.
func TestWhatIsRefusedChangesNothing(t *testing.T) {
	for _, a := range []frame.Anchor{some, {Seq: 500}, {From: 63, Seq: 500, Root: 63, Boot: 65535, Global: top, Tai: top}} {
		b, p := book(t, a)
		for _, x := range wrong() {
			if hears(t, b, p, x) || makes(t, b, p, x.From, answer(x.Root, x.Boot, x.Global), x.Tai) != api.ErrArg {
				t.Fatalf("%v isn't refused", x)
			}
		}
		for _, seq := range []uint16{500, 499, 0, 33268, 33269} {
			if hears(t, b, p, frame.Anchor{From: 1, Seq: seq, Root: 1, Boot: 1, Global: 1, Tai: 1}) {
				t.Fatalf("%d isn't refused", seq)
			}
		}
		asks(t, b, p)
		// What couldn't be doesn't stand in the way of the next one.
		if x, e := b.Make(4, answer(1, 2, 3), 5); x != (frame.Anchor{From: 4, Seq: 501, Root: 1, Boot: 2, Global: 3, Tai: 5}) || e != api.OK {
			t.Fatalf("%v, %d", x, e)
		}
	}
}

// P23.1: twice round, one by one and by leaps.
func TestSeqsThatGoRound(t *testing.T) {
	for _, leap := range []uint16{1, 2, 255, 257, 10000, 32766, 32767} {
		a := frame.Anchor{From: 1, Seq: 65530, Root: 2}
		b, p := book(t, a)
		for i := range 1<<17 + 7 {
			a.Seq += leap
			a.Global, a.Tai = i, 2*i
			if !b.Hear(a) {
				t.Fatalf("%v isn't heard", a)
			}
		}
		p.list = []frame.Anchor{a}
		has(t, b, p)
	}
}

// makings are books that have no anchor, some, and one that is all zero, by which one is made.
func makings(t testing.TB, me int, s source.Answer, tai int) {
	t.Helper()
	for _, before := range [][]frame.Anchor{nil, {some}, {{}}, {{Seq: 65535, From: 63, Root: 63, Boot: 65535, Global: top, Tai: top}}} {
		b, p := book(t, before...)
		code := makes(t, b, p, me, s, tai)
		good := can(frame.Anchor{From: me, Root: s.Whose.Root, Global: s.Time, Tai: tai})
		if good != (code == api.OK) {
			t.Fatalf("%v: Make(%d, %v, %d): %d", before, me, s, tai, code)
		}
		// Whatever it was, one that can be comes behind it.
		if makes(t, b, p, 1, answer(2, 3, 4), 5) != api.OK {
			t.Fatalf("%v: Make(%d, %v, %d) stands in the way", before, me, s, tai)
		}
	}
}

// P23.1: of nodes and times at the edges, one beyond, and at the type's ends.
func TestMakeOfWhatCanBe(t *testing.T) {
	for _, n := range nodes() {
		for _, at := range edges() {
			makings(t, n, answer(3, 65535, at), 9)
			makings(t, 5, answer(n, 1, 8), at)
			makings(t, n, answer(0, 0, 0), at)
			makings(t, 63, answer(n, 32768, at), top)
		}
		for _, m := range nodes() {
			makings(t, n, answer(m, 7, 7), 9)
		}
	}
	for _, n := range edges() {
		for _, m := range edges() {
			makings(t, 5, answer(3, 2, n), m)
		}
	}
	for n := range 64 {
		makings(t, n, answer(63-n, uint16(1040*n), n), 1000*n)
	}
}

// P23.1: over how many hops a time came, and how, plays no part, even if it can't be so.
func TestHopsAndWayPlayNoPart(t *testing.T) {
	for _, hops := range nodes() {
		for _, way := range []source.Way{least, -1, source.None, source.Own, source.Flooded, source.Asked, 4, greatest} {
			b, p := book(t, some)
			s := source.Answer{Time: 1234, Hops: hops, Whose: source.Whose{Root: 6, Boot: 8}, Way: way}
			makes(t, b, p, 3, s, 77)
			if a, ok := b.Has(); a != (frame.Anchor{From: 3, Seq: 501, Root: 6, Boot: 8, Global: 1234, Tai: 77}) || !ok {
				t.Fatalf("%v: %v, %v", s, a, ok)
			}
		}
	}
}

// P23.1: behind every Seq that was heard, whoever's it was, past the last one, too.
func TestMakeBehindEverySeq(t *testing.T) {
	for seq := range 1 << 16 {
		a := some
		a.Seq = uint16(seq)
		b, _ := book(t, a)
		next, e := b.Make(3, answer(5, 6, 7), 8)
		if next != (frame.Anchor{From: 3, Seq: uint16((seq + 1) % 65536), Root: 5, Boot: 6, Global: 7, Tai: 8}) || e != api.OK {
			t.Fatalf("%d: %v, %d", seq, next, e)
		}
		// It is newer than the one that there was.
		other, _ := book(t, a)
		if !other.Hear(next) || other.Hear(next) || b.Hear(next) || b.Hear(a) {
			t.Fatalf("%d: %v", seq, next)
		}
	}
}

// P23.1: one behind the other, from the first one on, past the last number.
func TestMakesInARow(t *testing.T) {
	b, p := new(Book), new(plain)
	for i := range 1<<16 + 10 {
		a, e := b.Make(i%64, answer(63-i%64, uint16(3*i), 1000*i), 7*i)
		if a != (frame.Anchor{From: i % 64, Seq: uint16((i + 1) % 65536), Root: 63 - i%64, Boot: uint16(3 * i), Global: 1000 * i, Tai: 7 * i}) || e != api.OK {
			t.Fatalf("%d: %v, %d", i, a, e)
		}
		p.list = []frame.Anchor{a}
		has(t, b, p)
		if x, e := b.Make(64, answer(1, 1, 1), 1); x != (frame.Anchor{}) || e != api.ErrArg {
			t.Fatalf("%d: %v, %d", i, x, e)
		}
	}
}

// P23.1: told by hand.
func TestMakeToldByHand(t *testing.T) {
	var b Book
	for i, x := range []struct {
		me, root int
		boot     uint16
		at, tai  int
		seq      uint16
		code     api.Errno
	}{
		{64, 2, 7, 5000, 100, 0, api.ErrArg}, {0, 0, 0, 0, 0, 1, api.OK}, {63, 63, 65535, top, top, 2, api.OK}, {-1, 2, 7, 5000, 100, 0, api.ErrArg}, {3, 64, 7, 5000, 100, 0, api.ErrArg},
		{3, -1, 7, 5000, 100, 0, api.ErrArg}, {3, 2, 7, -1, 100, 0, api.ErrArg}, {3, 2, 7, top + 1, 100, 0, api.ErrArg}, {3, 2, 7, 5000, -1, 0, api.ErrArg}, {3, 2, 7, 5000, top + 1, 0, api.ErrArg},
		{3, 2, 7, 5000, 100, 3, api.OK}, {3, 2, 7, 5000, 100, 4, api.OK},
	} {
		want := frame.Anchor{From: x.me, Seq: x.seq, Root: x.root, Boot: x.boot, Global: x.at, Tai: x.tai}
		if x.code != api.OK {
			want = frame.Anchor{}
		}
		if a, e := b.Make(x.me, answer(x.root, x.boot, x.at), x.tai); a != want || e != x.code {
			t.Errorf("%d: %v, %d", i, a, e)
		}
	}
}
