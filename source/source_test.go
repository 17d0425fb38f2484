package source

import (
	"math"
	"testing"

	"angelus/api"
	"angelus/elect"
	"angelus/flood"
	"angelus/frame"
	"angelus/table"
)

const (
	least    = math.MinInt
	greatest = math.MaxInt
	top      = 1 << 50 // the greatest time
)

// spread tells numbers that look as if drawn, the same ones every time.
type spread uint64

func (s *spread) next() uint64 {
	*s = *s*6364136223846793005 + 1442695040888963407
	return uint64(*s >> 11)
}

// between is one of the numbers from low to high, both meant.
func (s *spread) between(low, high int) int {
	return low + int(s.next()%uint64(high-low+1))
}

// of is one of some numbers.
func (s *spread) of(numbers ...int) int {
	return numbers[s.between(0, len(numbers)-1)]
}

// edges are numbers about those from which on, and up to which, times can be.
func edges() []int {
	return []int{least, least + 1, least + top, -top - 1, -top, -top + 1, -1 << 32, -1000, -2, -1, 0, 1, 2, 1000, 1 << 32, top/2 - 1, top / 2, top - 2, top - 1, top, top + 1, top + 2, 2 * top, 1 << 62, greatest - top, greatest - 1, greatest}
}

// time: whether the rules let a number be a time.
func time(n int) bool {
	return n >= 0 && n <= 1125899906842624
}

// can: whether the rules let an entry of that root be put.
func can(e table.Entry, w Whose) bool {
	ahead := e.Offset
	return time(e.Local) && (time(ahead) || ahead < 0 && ahead >= -1125899906842624) && e.Hops > 0 && e.Hops < 64 && w.Root > -1 && w.Root < 64
}

// The kinds of calls that may change a source, or the flood that is asked beside it.
const (
	put = iota
	drop
	beat
	hear
	round
	boot
)

// act is such a call.
type act struct {
	what  int
	entry table.Entry
	whose Whose
	word  frame.Sync
	local int
	life  uint16
}

// puts, drops and beats are acts of a source; hears, rounds and boots such of a flood.
func puts(e table.Entry, w Whose) act      { return act{what: put, entry: e, whose: w} }
func drops() act                           { return act{what: drop} }
func beats() act                           { return act{what: beat} }
func hears(local int, word frame.Sync) act { return act{what: hear, local: local, word: word} }
func rounds(local int) act                 { return act{what: round, local: local} }
func boots(life uint16) act                { return act{what: boot, life: life} }
func word(root int, b, seq uint16, time int) frame.Sync {
	return frame.Sync{From: root, Root: root, Boot: b, Seq: seq, Time: time}
}

// floods does to a flood what an act says.
func (a act) floods(f *flood.Flood) {
	switch a.what {
	case hear:
		f.Hear(a.word, a.local)
	case round:
		f.Beat(a.local)
	case boot:
		f.Boot(a.life)
	}
}

// told is what Time answers.
type told struct {
	answer Answer
	code   api.Errno
}

// answer is what an act answered, and what the source told then, at some own times.
type answer struct {
	code  api.Errno
	fresh bool
	times [6]told
}

// asking are the own times at which an answer tells the Time.
var asking = [6]int{-1, 0, 110, 5000, top, top + 1}

// does is what a source answers to an act, and beside that flood then.
func does(s *Source, f *flood.Flood, a act) answer {
	var r answer
	switch a.what {
	case put:
		r.code = s.Put(a.entry, a.whose)
	case drop:
		s.Drop()
	case beat:
		s.Beat()
	}
	a.floods(f)
	r.fresh = s.Fresh()
	for i, local := range asking {
		r.times[i].answer, r.times[i].code = s.Time(f, local)
	}
	return r
}

// plain is a source that keeps all that it was told; its flood is layer 16's.
type plain struct {
	limit int
	acts  []act
	flood *flood.Flood
}

// asked is the last entry that was put and can be, unless it was dropped, or as many rounds as the limit are over since.
func (p *plain) asked() (act, bool) {
	ago := 0
	for i := len(p.acts) - 1; i >= 0 && ago < p.limit; i-- {
		a := p.acts[i]
		switch {
		case a.what == drop:
			return act{}, false
		case a.what == beat:
			ago++
		case a.what == put && can(a.entry, a.whose):
			return a, ago < p.limit
		}
	}
	return act{}, false
}

// time is what the rules tell at an own time.
func (p *plain) time(local int) told {
	if p.flood.Synced() {
		global, hops, code := p.flood.Time(local)
		if code != api.OK {
			return told{code: code}
		}
		m, _ := p.flood.Mark()
		way := Flooded
		if p.flood.Mine() {
			way = Own
		}
		return told{answer: Answer{global, hops, Whose{p.flood.Root(), m.Boot}, way}}
	}
	a, ok := p.asked()
	if !ok {
		return told{code: api.ErrUnsync}
	}
	if !time(local) || !time(local+a.entry.Offset) {
		return told{code: api.ErrOver}
	}
	return told{answer: Answer{local + a.entry.Offset, a.entry.Hops, a.whose, Asked}}
}

// does is what the document's rules answer to an act.
func (p *plain) does(a act) answer {
	p.acts = append(p.acts, a)
	a.floods(p.flood)
	var r answer
	if a.what == put && !can(a.entry, a.whose) {
		r.code = api.ErrArg
	}
	_, r.fresh = p.asked()
	for i, local := range asking {
		r.times[i] = p.time(local)
	}
	return r
}

// source is a new one.
func source(t testing.TB, limit int) *Source {
	t.Helper()
	s, code := New(limit)
	if s == nil || code != api.OK {
		t.Fatalf("%d: %v, %d", limit, s, code)
	}
	return s
}

// rules are such ones of layer 16, with an Ignore of 0.
func rules(timeout, need int) flood.Rules {
	return flood.Rules{Rules: elect.Rules{Timeout: timeout}, Need: need, Drift: 10}
}

// node is a flood's one, behind some acts.
func node(t testing.TB, me int, r flood.Rules, acts ...act) *flood.Flood {
	t.Helper()
	f, code := flood.New(me, r)
	if f == nil || code != api.OK {
		t.Fatalf("%d, %v: %v, %d", me, r, f, code)
	}
	for _, a := range acts {
		a.floods(f)
	}
	return f
}

// follows fails, unless acts in a row are answered as the rules say.
func follows(t testing.TB, limit, me int, r flood.Rules, acts ...act) {
	t.Helper()
	s, f := source(t, limit), node(t, me, r)
	p := &plain{limit: limit, flood: node(t, me, r)}
	for i, a := range acts {
		if got, want := does(s, f, a), p.does(a); got != want {
			t.Fatalf("limit %d, node %d, %v, act %d of %v:\n%v, and not\n%v", limit, me, r, i, acts, got, want)
		}
	}
}

// tells fails, unless Time answers that.
func tells(t testing.TB, s *Source, f *flood.Flood, local int, want Answer) {
	t.Helper()
	if a, code := s.Time(f, local); a != want || code != api.OK {
		t.Fatalf("at %d: %v, %d; and not %v", local, a, code, want)
	}
}

// untold fails, unless Time answers an error, and nothing beside it.
func untold(t testing.TB, s *Source, f *flood.Flood, local int, want api.Errno) {
	t.Helper()
	if a, code := s.Time(f, local); a != (Answer{}) || code != want {
		t.Fatalf("at %d: %v, %d; and not %d", local, a, code, want)
	}
}

// nothing fails, unless nothing was asked.
func nothing(t testing.TB, s *Source) {
	t.Helper()
	if s.Fresh() {
		t.Fatal("something was asked")
	}
	f := node(t, 5, rules(9, 1))
	for _, local := range edges() {
		untold(t, s, f, local, api.ErrUnsync)
	}
}

// lasts fails, unless that is asked, and good for so many rounds; these are over then.
func lasts(t testing.TB, s *Source, e table.Entry, w Whose, left int) {
	t.Helper()
	f := node(t, 5, rules(9, 1))
	local := max(0, -e.Offset)
	for i := range left {
		if !s.Fresh() {
			t.Fatalf("%v, %v: nothing was asked after %d rounds, and not after %d", e, w, i, left)
		}
		tells(t, s, f, local, Answer{Time: local + e.Offset, Hops: e.Hops, Whose: w, Way: Asked})
		s.Beat()
	}
	nothing(t, s)
}

// takes fails, unless an entry is put.
func takes(t testing.TB, s *Source, e table.Entry, w Whose) {
	t.Helper()
	if code := s.Put(e, w); code != api.OK || !s.Fresh() {
		t.Fatalf("%v, %v: %d, %v", e, w, code, s.Fresh())
	}
}

// refuses fails, unless an entry can't be put.
func refuses(t testing.TB, s *Source, e table.Entry, w Whose) {
	t.Helper()
	was := s.Fresh()
	if code := s.Put(e, w); code != api.ErrArg || s.Fresh() != was {
		t.Fatalf("%v, %v: %d, %v", e, w, code, s.Fresh())
	}
}

var (
	some  = table.Entry{Local: 100, Offset: 50, Hops: 2}
	other = table.Entry{Local: 70, Offset: -60, Hops: 9}
	third = Whose{Root: 3, Boot: 7}
	first = Whose{Root: 1, Boot: 65535}
)

// P19.1
func TestTheChaptersExample(t *testing.T) {
	s := source(t, 1)
	takes(t, s, some, third)
	tells(t, s, node(t, 5, rules(9, 1)), 110, Answer{Time: 160, Hops: 2, Whose: third, Way: Asked})
}

// P19.1: the ways count on from none.
func TestWays(t *testing.T) {
	if None != 0 || Own != 1 || Flooded != 2 || Asked != 3 || (Answer{}).Way != None {
		t.Errorf("%d, %d, %d, %d", None, Own, Flooded, Asked)
	}
}

// P19.1: of limits at their edges and their type's.
func TestLimitsThatCanBe(t *testing.T) {
	for _, limit := range []int{least, least + 1, least + 1000, -1 << 32, -1000, -2, -1, 0, 1, 2, 3, 64, 255, 256, 257, 998, 999, 1000, 1001, 1002, 1024, 65536, 65537, 1 << 32, 1<<32 + 1, 1<<32 + 1000, greatest - 1, greatest} {
		s, code := New(limit)
		if limit < 1 || limit > 1000 {
			if s != nil || code != api.ErrArg {
				t.Errorf("%d: %v, %d", limit, s, code)
			}
			continue
		}
		if s == nil || code != api.OK {
			t.Fatalf("%d: %v, %d", limit, s, code)
		}
		nothing(t, s)
		takes(t, s, some, third)
		lasts(t, s, some, third, limit)
	}
}

// P19.1: of entries at their edges, one beyond, and at the type's ends, where nothing was asked.
func TestEntriesThatCanBe(t *testing.T) {
	hops := []int{least, least + 1, -1 << 32, 1 - 1<<32, -256, -63, -1, 0, 1, 2, 31, 62, 63, 64, 65, 127, 128, 256, 257, 65537, 1<<32 + 1, greatest}
	for _, local := range edges() {
		for _, offset := range edges() {
			for _, h := range hops {
				s := source(t, 2)
				e := table.Entry{Local: local, Offset: offset, Hops: h}
				if !can(e, third) {
					refuses(t, s, e, third)
					nothing(t, s)
					continue
				}
				takes(t, s, e, third)
				lasts(t, s, e, third, 2)
			}
		}
	}
}

// P19.1: of roots at their edges, one beyond, and at the type's ends, in each of some lives.
func TestRootsThatCanBe(t *testing.T) {
	for _, root := range []int{least, least + 1, least + 3, -1 << 32, 3 - 1<<32, -256, -253, -64, -63, -2, -1, 0, 1, 2, 31, 32, 62, 63, 64, 65, 127, 128, 255, 256, 259, 65539, 1 << 32, 1<<32 + 3, greatest - 1, greatest} {
		for _, b := range []uint16{0, 1, 7, 255, 256, 32767, 32768, 65534, 65535} {
			s := source(t, 2)
			w := Whose{Root: root, Boot: b}
			if root < 0 || root > 63 {
				refuses(t, s, some, w)
				nothing(t, s)
				takes(t, s, other, third)
				refuses(t, s, some, w)
				lasts(t, s, other, third, 2)
				continue
			}
			takes(t, s, some, w)
			lasts(t, s, some, w, 2)
		}
	}
}

// beyond are entries, and whose they are, that can't be put.
func beyond() []act {
	return []act{
		puts(table.Entry{}, third),
		puts(table.Entry{Local: -1, Offset: 50, Hops: 2}, first), puts(table.Entry{Local: top + 1, Offset: 50, Hops: 2}, first),
		puts(table.Entry{Local: least, Offset: 50, Hops: 2}, first), puts(table.Entry{Local: greatest, Offset: 50, Hops: 2}, first),
		puts(table.Entry{Local: 1, Offset: -top - 1, Hops: 2}, first), puts(table.Entry{Local: 1, Offset: top + 1, Hops: 2}, first),
		puts(table.Entry{Local: 1, Offset: least, Hops: 2}, first), puts(table.Entry{Local: 1, Offset: greatest, Hops: 2}, first),
		puts(table.Entry{Local: 1, Offset: 1, Hops: 0}, first), puts(table.Entry{Local: 1, Offset: 1, Hops: 64}, first),
		puts(table.Entry{Local: 1, Offset: 1, Hops: least}, first), puts(table.Entry{Local: 1, Offset: 1, Hops: greatest}, first),
		puts(other, Whose{Root: -1, Boot: 1}), puts(other, Whose{Root: 64, Boot: 1}),
		puts(other, Whose{Root: least, Boot: 1}), puts(other, Whose{Root: greatest, Boot: 1}),
		puts(table.Entry{Local: -1, Offset: -top - 1, Hops: -1}, Whose{Root: -1}),
	}
}

// P19.1: what was asked before is asked still, as many rounds ago as it was.
func TestWhatCantBePutChangesNothing(t *testing.T) {
	for _, a := range beyond() {
		for _, limit := range []int{1, 2, 5} {
			for ago := range limit {
				s := source(t, limit)
				refuses(t, s, a.entry, a.whose)
				takes(t, s, some, third)
				for range ago {
					s.Beat()
					refuses(t, s, a.entry, a.whose)
				}
				refuses(t, s, a.entry, a.whose)
				lasts(t, s, some, third, limit-ago)
				refuses(t, s, a.entry, a.whose)
				nothing(t, s)
			}
		}
	}
}

// P19.1: in place of what was asked before, no rounds ago; the same once more, too.
func TestWhatIsPutIsAskedAnew(t *testing.T) {
	for _, e := range []table.Entry{some, other, {Local: 0, Offset: 0, Hops: 1}, {Local: top, Offset: top, Hops: 63}, {Local: 0, Offset: -top, Hops: 63}} {
		for _, w := range []Whose{third, first, {Root: 3, Boot: 6}, {Root: 4, Boot: 7}, {}, {Root: 63, Boot: 65535}} {
			for _, limit := range []int{1, 2, 5} {
				for ago := range limit + 2 {
					s := source(t, limit)
					takes(t, s, some, third)
					for range ago {
						s.Beat()
					}
					takes(t, s, e, w)
					lasts(t, s, e, w, limit)
				}
			}
		}
	}
}

// P19.1: up to one round below the limit, at it, and behind it.
func TestRounds(t *testing.T) {
	for _, limit := range []int{1, 2, 3, 999, 1000} {
		s := source(t, limit)
		for range 3 {
			s.Beat()
			nothing(t, s)
		}
		takes(t, s, some, third)
		lasts(t, s, some, third, limit)
		for range 1100 {
			s.Beat()
			if s.Fresh() {
				t.Fatal("something was asked")
			}
		}
		nothing(t, s)
		// The rounds without anything don't count.
		takes(t, s, other, first)
		lasts(t, s, other, first, limit)
	}
}

// P19.1: wherever between it was put the rounds begin anew, if it can be.
func TestPutsBetweenRounds(t *testing.T) {
	for _, limit := range []int{1, 2, 1000} {
		for _, ago := range []int{0, 1, limit / 2, limit - 2, limit - 1} {
			if ago < 0 || ago >= limit {
				continue
			}
			s := source(t, limit)
			takes(t, s, some, third)
			for range ago {
				s.Beat()
			}
			takes(t, s, other, first)
			for range ago {
				s.Beat()
			}
			refuses(t, s, some, Whose{Root: 64})
			lasts(t, s, other, first, limit-ago)
		}
	}
}

// P19.1: in each state, and a Put behind it.
func TestDrop(t *testing.T) {
	for _, limit := range []int{1, 2, 5, 1000} {
		for _, ago := range []int{0, 1, 2, 4, 5, 999, 1000, 1001} {
			s := source(t, limit)
			s.Drop()
			nothing(t, s)
			takes(t, s, some, third)
			for range ago {
				s.Beat()
			}
			s.Drop()
			nothing(t, s)
			s.Drop()
			s.Beat()
			nothing(t, s)
			refuses(t, s, table.Entry{}, third)
			nothing(t, s)
			takes(t, s, other, first)
			lasts(t, s, other, first, limit)
		}
	}
}

// P19.1: of a nil source, of a nil flood and of both, at every time, whatever was asked.
func TestNil(t *testing.T) {
	var none *Source
	var noFlood *flood.Flood
	fresh, asked := source(t, 2), source(t, 2)
	takes(t, asked, some, third)
	floods := []*flood.Flood{noFlood, node(t, 5, rules(9, 1)), node(t, 5, rules(1, 1), rounds(7)), node(t, 5, rules(9, 1), hears(7, word(3, 1, 1, 9)))}
	for _, local := range edges() {
		for _, f := range floods {
			untold(t, none, f, local, api.ErrNil)
		}
		untold(t, fresh, noFlood, local, api.ErrNil)
		untold(t, asked, noFlood, local, api.ErrNil)
	}
	lasts(t, asked, some, third, 2)
	for range 3 {
		none.Beat()
		none.Drop()
		if none.Fresh() || none.Put(some, third) != api.ErrNil {
			t.Error("a nil source takes something")
		}
	}
	for _, a := range beyond() {
		if code := none.Put(a.entry, a.whose); code != api.ErrNil {
			t.Errorf("%v: %d", a, code)
		}
	}
}

// askings are sources for which nothing was asked, something of another root, something of the same, and something that has grown old.
func askings(t testing.TB) []*Source {
	t.Helper()
	list := []*Source{source(t, 2), source(t, 2), source(t, 2), source(t, 2), source(t, 1000)}
	takes(t, list[1], some, third)
	takes(t, list[2], table.Entry{Local: 7, Offset: 400, Hops: 60}, Whose{Root: 2, Boot: 4})
	takes(t, list[3], some, first)
	list[3].Beat()
	list[3].Beat()
	takes(t, list[4], table.Entry{Local: 0, Offset: -top, Hops: 1}, Whose{Root: 5, Boot: 0})
	return list
}

// P19.1, P19.2: a node that is the root itself, in each of some lives, before its first word and behind it.
func TestOwn(t *testing.T) {
	for _, me := range []int{0, 1, 5, 63} {
		for _, b := range []uint16{0, 1, 9, 32768, 65535} {
			unsaid := node(t, me, rules(1, 8), boots(b), rounds(-1))
			said := node(t, me, rules(1, 8), boots(b), rounds(5), rounds(6))
			if _, ok := unsaid.Mark(); ok || !unsaid.Mine() {
				t.Fatal("a word was said")
			}
			for _, f := range []*flood.Flood{unsaid, said} {
				for _, s := range askings(t) {
					for _, local := range edges() {
						if !time(local) {
							untold(t, s, f, local, api.ErrOver)
							continue
						}
						tells(t, s, f, local, Answer{Time: local, Whose: Whose{Root: me, Boot: b}, Way: Own})
					}
				}
			}
		}
	}
}

// P19.1, P19.2: a node that goes by another root: its life, and what the flood tells, over how many hops too; where that has an error, this error.
func TestFlooded(t *testing.T) {
	for _, root := range []int{0, 2, 4} {
		for _, b := range []uint16{0, 4, 65535} {
			for _, hops := range []int{0, 1, 30, 62} {
				for _, offset := range []int{-top, -700, 0, 700, top} {
					heard := max(0, -offset)
					w := word(root, b, 1, heard+offset)
					w.Hops = hops
					f := node(t, 5, rules(9, 1), hears(heard, w))
					if !f.Synced() {
						t.Fatalf("%v: not synced", w)
					}
					for _, s := range askings(t) {
						for _, local := range append(edges(), heard, 699, 700, 701) {
							if !time(local) || !time(local+offset) {
								untold(t, s, f, local, api.ErrOver)
								continue
							}
							tells(t, s, f, local, Answer{Time: local + offset, Hops: hops + 1, Whose: Whose{Root: root, Boot: b}, Way: Flooded})
						}
					}
				}
			}
		}
	}
}

// P19.1: of several entries, the time and the hops are those of the flood's Time, not of its last word.
func TestFloodedIsTheFloodsTime(t *testing.T) {
	near, far := word(3, 6, 2, 2020), word(3, 6, 1, 1000)
	far.Hops = 40
	f := node(t, 5, flood.Rules{Rules: elect.Rules{Timeout: 9}, Need: 2, Drift: 0}, hears(1000, far), hears(2000, near))
	for _, s := range askings(t) {
		tells(t, s, f, 5000, Answer{Time: 5010, Hops: 41, Whose: Whose{Root: 3, Boot: 6}, Way: Flooded})
	}
}

// unsynced are floods that aren't: of a new node, a new life, too few entries, another root, and a root that isn't any more.
func unsynced(t testing.TB) []*flood.Flood {
	t.Helper()
	list := []*flood.Flood{
		node(t, 5, rules(9, 1)),
		node(t, 5, rules(9, 1), hears(100, word(3, 1, 1, 900)), boots(4)),
		node(t, 5, rules(9, 2), hears(100, word(3, 1, 1, 900))),
		node(t, 5, rules(9, 2), hears(100, word(3, 1, 1, 900)), hears(200, word(3, 1, 2, 1000)), hears(300, word(1, 1, 1, 700))),
		node(t, 5, rules(1, 2), rounds(70), hears(100, word(3, 1, 1, 900))),
		node(t, 63, rules(1, 8), boots(3), rounds(70), boots(9)),
	}
	for i, f := range list {
		if f.Synced() {
			t.Fatalf("flood %d is synced", i)
		}
	}
	return list
}

// P19.1: where nothing was asked, or isn't good any more, whatever the time is.
func TestNothingIsKnown(t *testing.T) {
	for _, f := range unsynced(t) {
		dropped, old := source(t, 2), source(t, 2)
		takes(t, dropped, some, third)
		dropped.Drop()
		takes(t, old, some, third)
		old.Beat()
		old.Beat()
		for _, s := range []*Source{source(t, 2), dropped, old} {
			for _, local := range edges() {
				untold(t, s, f, local, api.ErrUnsync)
			}
		}
	}
}

// P19.1: own times, and what they come to with the offset, at the edges of what can be, and one beyond.
func TestAsked(t *testing.T) {
	offsets := []int{-top, -top + 1, -top / 2, -1000, -2, -1, 0, 1, 2, 1000, top / 2, top - 1, top}
	for i, f := range unsynced(t) {
		for _, offset := range offsets {
			for _, at := range []int{0, 100, top} {
				s := source(t, 2)
				e := table.Entry{Local: at, Offset: offset, Hops: 1 + 12*i}
				w := Whose{Root: 60 - i, Boot: uint16(i * 1000)}
				takes(t, s, e, w)
				for _, local := range append(edges(), -offset-1, -offset, -offset+1, top-offset-1, top-offset, top-offset+1) {
					if !time(local) || !time(local+offset) {
						untold(t, s, f, local, api.ErrOver)
						continue
					}
					tells(t, s, f, local, Answer{Time: local + offset, Hops: e.Hops, Whose: w, Way: Asked})
				}
				lasts(t, s, e, w, 2)
			}
		}
	}
}

// P19.1: of times at their edges, told by hand.
func TestAskedAtItsEnds(t *testing.T) {
	f := node(t, 5, rules(9, 1))
	for _, x := range []struct{ offset, local, time int }{
		{-100, 100, 0}, {100, top - 100, top}, {-100, top, top - 100}, {100, 0, 100}, {0, 0, 0}, {0, top, top}, {-top, top, 0}, {top, 0, top},
	} {
		s := source(t, 1)
		takes(t, s, table.Entry{Local: 5, Offset: x.offset, Hops: 63}, Whose{Root: 63})
		tells(t, s, f, x.local, Answer{Time: x.time, Hops: 63, Whose: Whose{Root: 63}, Way: Asked})
	}
	for _, x := range []struct{ offset, local int }{
		{-100, 99}, {100, top - 99}, {-100, top + 1}, {-100, top + 50}, {100, -1}, {100, -100}, {-top, top - 1}, {top, 1}, {top, -1}, {-top, top + 1}, {top, -top}, {-top, 2 * top}, {0, -1}, {0, top + 1},
		{-top, least}, {top, least}, {-top, greatest}, {top, greatest}, {-1, least}, {1, greatest},
	} {
		s := source(t, 1)
		takes(t, s, table.Entry{Local: 5, Offset: x.offset, Hops: 63}, Whose{Root: 63})
		untold(t, s, f, x.local, api.ErrOver)
	}
}

// P19.2: what was asked plays no part while the flood is synced, and is told again when it isn't any more, as long as it is good.
func TestWhatWasAskedComesAgain(t *testing.T) {
	for limit := 1; limit <= 6; limit++ {
		for ago := range 8 {
			s, f := source(t, limit), node(t, 5, rules(9, 2))
			takes(t, s, some, third)
			tells(t, s, f, 110, Answer{Time: 160, Hops: 2, Whose: third, Way: Asked})
			hears(100, word(3, 7, 1, 900)).floods(f)
			tells(t, s, f, 110, Answer{Time: 160, Hops: 2, Whose: third, Way: Asked})
			hears(200, word(3, 7, 2, 1000)).floods(f)
			for i := range ago {
				tells(t, s, f, 300, Answer{Time: 1100, Hops: 1, Whose: Whose{Root: 3, Boot: 7}, Way: Flooded})
				if s.Fresh() != (i < limit) {
					t.Fatalf("limit %d, %d rounds: %v", limit, i, s.Fresh())
				}
				s.Beat()
			}
			tells(t, s, f, 300, Answer{Time: 1100, Hops: 1, Whose: Whose{Root: 3, Boot: 7}, Way: Flooded})
			// Another root's first word is too little.
			hears(400, word(1, 0, 1, 50)).floods(f)
			if ago >= limit {
				nothing(t, s)
				untold(t, s, f, 110, api.ErrUnsync)
				continue
			}
			tells(t, s, f, 110, Answer{Time: 160, Hops: 2, Whose: third, Way: Asked})
			lasts(t, s, some, third, limit-ago)
		}
	}
}

// P19.2: the same flood is answered alike with each source, whatever was asked, in drawn orders, as long as it is synced.
func TestWhatWasAskedPlaysNoPart(t *testing.T) {
	var draw spread = 192
	synced := 0
	for range 400 {
		f := node(t, 5, rules(draw.between(1, 4), draw.between(1, 3)))
		bare, busy := source(t, 3), source(t, draw.between(1, 4))
		for range 40 {
			a := drawn(&draw)
			a.floods(f)
			does(busy, node(t, 5, rules(1, 1)), a)
			if !f.Synced() {
				continue
			}
			synced++
			for _, local := range edges() {
				x, code := bare.Time(f, local)
				y, other := busy.Time(f, local)
				if x != y || code != other {
					t.Fatalf("at %d: %v, %d, and %v, %d", local, x, code, y, other)
				}
			}
		}
	}
	if synced < 4000 {
		t.Errorf("%d times synced", synced)
	}
}

// P19.1: asking changes nothing, neither of the source nor of the flood.
func TestAskingChangesNothing(t *testing.T) {
	for _, f := range append(unsynced(t), node(t, 5, rules(1, 1), rounds(7)), node(t, 5, rules(9, 1), hears(7, word(3, 1, 1, 9)))) {
		s := source(t, 3)
		takes(t, s, some, third)
		s.Beat()
		root, entries, synced := f.Root(), f.Entries(), f.Synced()
		mark, marked := f.Mark()
		for range 5 {
			for _, local := range edges() {
				s.Time(f, local)
				s.Time(nil, local)
				s.Fresh()
			}
		}
		if m, ok := f.Mark(); f.Root() != root || f.Entries() != entries || f.Synced() != synced || m != mark || ok != marked {
			t.Errorf("%d, %d, %v, %v, %v", f.Root(), f.Entries(), f.Synced(), m, ok)
		}
		lasts(t, s, some, third, 2)
	}
}

// P19.1: sources know nothing of one another, and one tells of any flood that it is asked beside.
func TestSourcesKnowNothingOfOneAnother(t *testing.T) {
	one, two := source(t, 2), source(t, 3)
	takes(t, one, some, third)
	nothing(t, two)
	takes(t, two, other, first)
	one.Beat()
	one.Drop()
	lasts(t, two, other, first, 3)
	takes(t, one, some, third)
	root, not, by := node(t, 5, rules(1, 1), rounds(7)), node(t, 6, rules(1, 1)), node(t, 7, rules(9, 1), hears(100, word(4, 2, 1, 120)))
	for range 3 {
		tells(t, one, root, 200, Answer{Time: 200, Whose: Whose{Root: 5}, Way: Own})
		tells(t, one, not, 200, Answer{Time: 250, Hops: 2, Whose: third, Way: Asked})
		tells(t, one, by, 200, Answer{Time: 220, Hops: 1, Whose: Whose{Root: 4, Boot: 2}, Way: Flooded})
	}
}

// few are acts of which every order is tried.
var few = []act{
	puts(some, third), puts(other, first), puts(some, Whose{Root: 64}), drops(), beats(),
	hears(100, word(3, 7, 1, 130)), hears(200, word(1, 0, 1, 230)), rounds(300), boots(2),
}

// P19.1, P19.2
func TestAllOrdersOfAFewActs(t *testing.T) {
	const length = 4
	all := 1
	for range length {
		all *= len(few)
	}
	for _, limit := range []int{1, 2} {
		for _, r := range []flood.Rules{rules(2, 1), rules(1, 2)} {
			for n := range all {
				acts := make([]act, length)
				for i := range acts {
					acts[i] = few[n%len(few)]
					n /= len(few)
				}
				follows(t, limit, 5, r, acts...)
			}
		}
	}
}

// drawn is an act, most of them such that can be.
func drawn(s *spread) act {
	at := s.of(0, 10, 100, 110, 1000, 5000, top-1, top, s.between(0, 9000))
	switch s.between(0, 11) {
	case 0, 1, 2:
		e := table.Entry{Local: at, Offset: s.of(-top, -5000, -100, -1, 0, 1, 50, 5000, top), Hops: s.of(1, 2, 31, 63)}
		return puts(e, Whose{Root: s.of(0, 1, 3, 5, 9, 63), Boot: uint16(s.of(0, 1, 7, 65535))})
	case 3:
		e := table.Entry{Local: s.of(-1, 0, 100, top, top+1), Offset: s.of(-top-1, -top, 0, top, top+1), Hops: s.of(0, 1, 63, 64)}
		return puts(e, Whose{Root: s.of(-1, 0, 63, 64), Boot: uint16(s.of(0, 65535))})
	case 4, 5, 6:
		return beats()
	case 7:
		if s.between(0, 2) == 0 {
			return drops()
		}
		return boots(uint16(s.between(0, 9)))
	case 8, 9, 10:
		w := word(s.between(0, 6), uint16(s.between(0, 1)), uint16(s.between(1, 40)), s.of(0, 50, 1000, top, s.between(0, 9000)))
		w.Hops = s.of(0, 0, 1, 2, 61, 62, 63)
		return hears(at, w)
	}
	return rounds(s.of(-1, at, at, at, top+1))
}

// P19.1, P19.2
func TestDrawnActs(t *testing.T) {
	var s spread = 19
	for range 2500 {
		acts := make([]act, 50)
		for i := range acts {
			acts[i] = drawn(&s)
		}
		follows(t, s.of(1, 2, 3, 5, 1000), s.of(0, 2, 5, 63), rules(s.between(1, 5), s.between(1, 3)), acts...)
	}
}
