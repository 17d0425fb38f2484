package flood

import (
	"math"
	"slices"
	"testing"

	"angelus/api"
	"angelus/elect"
	"angelus/frame"
	"angelus/globe"
	"angelus/table"
)

const (
	least    = math.MinInt
	greatest = math.MaxInt
	maxTime  = 1 << 50
	half     = 1 << 15
)

// edges are the numbers at which a time begins, or ends, to be one, and those of their type.
var edges = []int{least, least + 1, least + 1000, -maxTime - 1, -maxTime, -1 << 32, -1000, -2, -1, 0, 1, 2, 1 << 31, 1 << 32, maxTime - 2, maxTime - 1, maxTime, maxTime + 1, maxTime + 2, 1 << 51, 1 << 62, greatest - 1000, greatest - 1, greatest}

// isOne: whether a number is a time.
func isOne(n int) bool {
	return n > -1 && n < maxTime+1
}

// spread tells numbers that look as if drawn, the same ones every time.
type spread uint64

func (s *spread) next() uint64 {
	*s = *s*6364136223846793005 + 1442695040888963407
	return uint64(*s >> 11)
}

// between is one of the numbers from low to high, both meant.
func (s *spread) between(low, high int) int {
	return low + int(s.next()%uint64(high-low+1))
}

// kind says which call an act is.
type kind int

const (
	boot kind = iota
	beat
	issue
	hear
)

// act is a call that may change a node.
type act struct {
	kind  kind
	local int
	life  uint16
	word  frame.Sync
}

// word is a root's own one.
func word(root int, b, seq uint16, time int) frame.Sync {
	return frame.Sync{From: root, Root: root, Boot: b, Seq: seq, Time: time}
}

// over is a word that came over so many hops.
func over(hops int, s frame.Sync) frame.Sync {
	s.Hops = hops
	return s
}

// heardAt is an act: a word is heard.
func heardAt(local int, s frame.Sync) act {
	return act{kind: hear, local: local, word: s}
}

// beatAt is an act: a round is over.
func beatAt(local int) act {
	return act{kind: beat, local: local}
}

// told is what Time answers.
type told struct {
	global int
	hops   int
	code   api.Errno
}

// answer is what an act answered, and what the node told of itself then, with its Time of some of the own times.
type answer struct {
	verdict elect.Verdict
	said    frame.Sync
	yes     bool
	issued  elect.Mark
	root    int
	mine    bool
	mark    elect.Mark
	marked  bool
	synced  bool
	entries int
	times   [5]told
}

// asked are the own times of which an answer tells the Time.
func asked(local int) [5]int {
	return [5]int{local, local + 1500, 0, maxTime, maxTime + 1}
}

// telling is what a node tells of itself.
func telling(f *Flood, local int) answer {
	r := answer{root: f.Root(), mine: f.Mine(), synced: f.Synced(), entries: f.Entries()}
	r.mark, r.marked = f.Mark()
	for i, at := range asked(local) {
		var x told
		x.global, x.hops, x.code = f.Time(at)
		r.times[i] = x
	}
	return r
}

// does is what a node answers to an act.
func does(f *Flood, a act) answer {
	var r answer
	switch a.kind {
	case boot:
		f.Boot(a.life)
	case beat:
		r.said, r.yes = f.Beat(a.local)
	case issue:
		r.issued, r.yes = f.Issue()
	case hear:
		r.verdict = f.Hear(a.word, a.local)
	}
	is := telling(f, a.local)
	is.verdict, is.said, is.yes, is.issued = r.verdict, r.said, r.yes, r.issued
	return is
}

// plain is a node reckoned from the list of all that it took since it knew nothing last; whose time it goes by is layer 15's.
type plain struct {
	me    int
	rules Rules
	elect *elect.Elect
	took  []act
}

// plainNode is a node in its first life.
func plainNode(me int, r Rules) *plain {
	e, _ := elect.New(me, r.Rules)
	return &plain{me: me, rules: r, elect: e}
}

// entries are those of the last eight words that were taken, from the last one on that didn't come later than the one ahead of it.
func (p *plain) entries() []table.Entry {
	var list []table.Entry
	for _, a := range p.took {
		if n := len(list); n > 0 && a.local <= list[n-1].Local {
			list = nil
		}
		list = append(list, table.Entry{Local: a.local, Offset: a.word.Time - a.local, Hops: a.word.Hops + 1})
	}
	return list[max(0, len(list)-8):]
}

// synced: whether it is the root, or has what it needs.
func (p *plain) synced() bool {
	return p.elect.Root() == p.me || len(p.entries()) >= p.rules.Need
}

// hears is what becomes of a word.
func (p *plain) hears(a act) elect.Verdict {
	s := a.word
	if s.Hops < 0 || s.Hops > 62 || !isOne(a.local) || !isOne(s.Time) {
		return elect.Refused
	}
	v := p.elect.Hear(s.Root, elect.Mark{Boot: s.Boot, Seq: s.Seq})
	if v == elect.Moved {
		p.took = nil
	}
	if v != elect.Refused {
		p.took = append(p.took, a)
	}
	return v
}

// says is what it says in a round.
func (p *plain) says(local int) (frame.Sync, bool) {
	if p.elect.Beat() {
		p.took = nil
	}
	if !isOne(local) || !p.synced() {
		return frame.Sync{}, false
	}
	if p.elect.Root() == p.me {
		m, _ := p.elect.Issue()
		return frame.Sync{From: p.me, Root: p.me, Boot: m.Boot, Seq: m.Seq, Time: local}, true
	}
	last := p.took[len(p.took)-1]
	s := last.word
	s.From = p.me
	s.Hops++
	s.Time += local - last.local
	if !isOne(s.Time) {
		return frame.Sync{}, false
	}
	return s, true
}

// time is what Time answers.
func (p *plain) time(local int) told {
	switch {
	case !p.synced():
		return told{code: api.ErrUnsync}
	case !isOne(local):
		return told{code: api.ErrOver}
	case p.elect.Root() == p.me:
		return told{global: local}
	}
	return layer14(p.rules.Drift, local, p.entries())
}

// layer14 is what that one tells of entries, at a time that is one.
func layer14(drift, local int, list []table.Entry) told {
	var known table.Table
	for _, e := range list {
		if known.Add(e) != api.OK {
			panic("entries that a table refuses")
		}
	}
	m, _ := globe.Of(drift, &known)
	global, ok := m.Global(local)
	if !ok {
		return told{code: api.ErrOver}
	}
	return told{global: global, hops: m.Hops}
}

// does is what the document's rules answer to an act.
func (p *plain) does(a act) answer {
	var r answer
	switch a.kind {
	case boot:
		p.elect.Boot(a.life)
		p.took = nil
	case beat:
		r.said, r.yes = p.says(a.local)
	case issue:
		r.issued, r.yes = p.elect.Issue()
	case hear:
		r.verdict = p.hears(a)
	}
	r.root, r.mine, r.synced, r.entries = p.elect.Root(), p.elect.Root() == p.me, p.synced(), len(p.entries())
	r.mark, r.marked = p.elect.Mark()
	for i, at := range asked(a.local) {
		r.times[i] = p.time(at)
	}
	return r
}

// rules are such ones.
func rules(timeout, ignore, need, drift int) Rules {
	return Rules{Rules: elect.Rules{Timeout: timeout, Ignore: ignore}, Need: need, Drift: drift}
}

// node is a new one.
func node(t testing.TB, me int, r Rules) *Flood {
	t.Helper()
	f, code := New(me, r)
	if f == nil || code != api.OK {
		t.Fatalf("%d, %v: %v, %d", me, r, f, code)
	}
	return f
}

// nodeOf is one behind some acts, each of which answered as the rules say.
func nodeOf(t testing.TB, me int, r Rules, acts ...act) *Flood {
	t.Helper()
	f, p := node(t, me, r), plainNode(me, r)
	for i, a := range acts {
		if got, want := does(f, a), p.does(a); got != want {
			t.Fatalf("node %d, %v, act %d of %v:\n%v, and not\n%v", me, r, i, acts, got, want)
		}
	}
	return f
}

// heard fails, unless a word at an own time has a verdict, and there are so many entries behind it.
func heard(t *testing.T, f *Flood, local int, s frame.Sync, want elect.Verdict, entries int) {
	t.Helper()
	if got := f.Hear(s, local); got != want || f.Entries() != entries {
		t.Fatalf("word %v at %d: %d, %d entries; and not %d, %d entries", s, local, got, f.Entries(), want, entries)
	}
}

// verdictOn is that on the first, second and so on word of a root's life.
func verdictOn(i int) elect.Verdict {
	if i == 1 {
		return elect.Moved
	}
	return elect.Took
}

// tells fails, unless Time answers a time and hops.
func tells(t *testing.T, f *Flood, local, global, hops int) {
	t.Helper()
	if g, h, code := f.Time(local); g != global || h != hops || code != api.OK {
		t.Fatalf("at %d: %d over %d, %d; and not %d over %d", local, g, h, code, global, hops)
	}
}

// untold fails, unless Time answers an error, and nothing beside it.
func untold(t *testing.T, f *Flood, local int, want api.Errno) {
	t.Helper()
	if g, h, code := f.Time(local); g != 0 || h != 0 || code != want {
		t.Fatalf("at %d: %d over %d, %d; and not %d", local, g, h, code, want)
	}
}

// says fails, unless a round ends with a word.
func says(t *testing.T, f *Flood, local int, want frame.Sync) {
	t.Helper()
	if got, ok := f.Beat(local); got != want || !ok {
		t.Fatalf("at %d: %v, %v; and not %v", local, got, ok, want)
	}
}

// silent fails, unless a round ends without a word.
func silent(t *testing.T, f *Flood, local int) {
	t.Helper()
	if got, ok := f.Beat(local); got != (frame.Sync{}) || ok {
		t.Fatalf("at %d: %v, %v; and not nothing", local, got, ok)
	}
}

// P16.1: of all four numbers at their bounds, beside them, and at the edges of their type.
func TestRulesThatCanBe(t *testing.T) {
	needs := []int{least, least + 1, -1 << 32, -8, -1, 0, 1, 2, 4, 7, 8, 9, 10, 257, 1<<16 + 1, 1<<32 + 1, greatest - 1, greatest}
	drifts := []int{least, least + 5, -1 << 32, -10, -2, -1, 0, 1, 5, 9, 10, 11, 12, 256, 1 << 16, 1<<32 + 10, greatest - 1, greatest}
	lower := []elect.Rules{{}, {Timeout: 1}, {Timeout: 1000, Ignore: 1000}, {Timeout: 500, Ignore: 7}, {Timeout: 1001}, {Timeout: 1000, Ignore: 1001}, {Timeout: 1, Ignore: -1}, {Timeout: -1}, {Timeout: greatest}, {Timeout: 1, Ignore: least}}
	for _, need := range needs {
		for _, drift := range drifts {
			for _, low := range lower {
				r := Rules{Rules: low, Need: need, Drift: drift}
				want := need > 0 && need < 9 && drift > -1 && drift < 11 && low.Timeout > 0 && low.Timeout < 1001 && low.Ignore > -1 && low.Ignore < 1001
				if got := r.Good(); got != want {
					t.Errorf("%v: %v", r, got)
				}
				f, code := New(63, r)
				if want != (code == api.OK) || want != (f != nil) || !want && code != api.ErrArg {
					t.Errorf("%v: %v, %d", r, f, code)
				}
			}
		}
	}
	if (Rules{}).Good() {
		t.Error("empty rules can be")
	}
}

// P16.1
func TestNodesThatCanBe(t *testing.T) {
	for _, me := range []int{least, least + 5, -1 << 32, -64, -2, -1, 0, 1, 2, 31, 32, 62, 63, 64, 65, 1<<8 + 1, 1<<16 + 1, 1<<32 + 1, greatest} {
		for _, r := range []Rules{{}, rules(1, 0, 1, 0), rules(1000, 1000, 8, 10), rules(1, 0, 0, 0), rules(1, 0, 9, 0), rules(1, 0, 1, -1), rules(1, 0, 1, 11), rules(0, 0, 1, 0), rules(1001, 0, 1, 0), rules(1, -1, 1, 0), rules(1, 1001, 1, 0)} {
			f, code := New(me, r)
			if me < 0 || me > 63 || !r.Good() {
				if f != nil || code != api.ErrArg {
					t.Errorf("%d, %v: %v, %d", me, r, f, code)
				}
			} else if f == nil || code != api.OK {
				t.Errorf("%d, %v: %v, %d", me, r, f, code)
			}
		}
	}
}

// P16.1: also what layer 15's calls, that are its own, tell.
func TestANewNode(t *testing.T) {
	for me := range 64 {
		for need := 1; need <= 8; need++ {
			f := node(t, me, rules(3, 2, need, need))
			if f.Synced() || f.Entries() != 0 || f.Root() != -1 || f.Mine() {
				t.Errorf("%d: %v, %d, %d, %v", me, f.Synced(), f.Entries(), f.Root(), f.Mine())
			}
			if m, ok := f.Mark(); m != (elect.Mark{}) || ok {
				t.Errorf("%d: %v, %v", me, m, ok)
			}
			if m, ok := f.Issue(); m != (elect.Mark{}) || ok {
				t.Errorf("%d: %v, %v", me, m, ok)
			}
			for _, local := range edges {
				untold(t, f, local, api.ErrUnsync)
			}
			silent(t, f, 1)
			silent(t, f, 2)
			says(t, f, 3, word(me, 0, 1, 3))
			if !f.Mine() || f.Root() != me {
				t.Errorf("%d: %d", me, f.Root())
			}
		}
	}
}

// P16.1: the chapter's examples.
func TestTheChaptersExamples(t *testing.T) {
	f := node(t, 5, rules(9, 0, 1, 10))
	heard(t, f, 100, word(3, 0, 1, 500), elect.Moved, 1)
	tells(t, f, 150, 550, 1)
}

// P16.1: by a node that has no root, one that has one, and one that is the root itself.
func TestOfWhichHopsIsHeard(t *testing.T) {
	pasts := [][]act{nil, {heardAt(5, word(3, 1, 1, 9))}, {heardAt(5, word(4, 1, 1, 9))}, {beatAt(1), beatAt(2), beatAt(3)}}
	for _, past := range pasts {
		for _, hops := range []int{least, least + 62, -1 << 32, 1 - 1<<32, -64, -63, -2, -1, 0, 1, 2, 31, 61, 62, 63, 64, 65, 126, 127, 128, 256, 1 << 16, 1 << 32, 1<<32 + 1, greatest - 1, greatest} {
			f := nodeOf(t, 5, rules(3, 0, 1, 0), past...)
			was := telling(f, 7)
			v := f.Hear(over(hops, word(3, 1, 2, 70)), 60)
			if hops < 0 || hops > 62 {
				if v != elect.Refused || telling(f, 7) != was {
					t.Errorf("%v, %d hops: %d", past, hops, v)
				}
				continue
			}
			if v == elect.Refused || f.Root() != 3 {
				t.Fatalf("%v, %d hops: %d", past, hops, v)
			}
			says(t, f, 61, frame.Sync{From: 5, Root: 3, Boot: 1, Seq: 2, Hops: hops + 1, Time: 71})
			if _, h, code := f.Time(62); h != hops+1 || code != api.OK {
				t.Errorf("%v, %d hops: %d, %d", past, hops, h, code)
			}
		}
	}
}

// P16.1: of all times of the own clock and of the root's.
func TestOfWhichTimesIsHeard(t *testing.T) {
	for _, local := range edges {
		for _, time := range edges {
			f := node(t, 5, rules(3, 0, 1, 10))
			v := f.Hear(word(3, 1, 2, time), local)
			if !isOne(local) || !isOne(time) {
				if v != elect.Refused || f.Entries() != 0 || f.Root() != -1 || f.Synced() {
					t.Errorf("%d at %d: %d", time, local, v)
				}
				// Nothing is known of that mark.
				heard(t, f, 7, word(3, 1, 2, 7), elect.Moved, 1)
				continue
			}
			if v != elect.Moved || f.Entries() != 1 || f.Root() != 3 || !f.Synced() {
				t.Fatalf("%d at %d: %d", time, local, v)
			}
			tells(t, f, local, time, 1)
			says(t, f, local, over(1, frame.Sync{From: 5, Root: 3, Boot: 1, Seq: 2, Time: time}))
		}
	}
}

// P16.1: what is refused begins no waiting anew, and its mark isn't known.
func TestWordsThatCantBePlayNoPart(t *testing.T) {
	words := []act{heardAt(50, over(63, word(3, 1, 9, 50))), heardAt(50, over(-1, word(3, 1, 9, 50))), heardAt(-1, word(3, 1, 9, 50)), heardAt(maxTime+1, word(3, 1, 9, 50)), heardAt(50, word(3, 1, 9, -1)), heardAt(50, word(3, 1, 9, maxTime+1)), heardAt(50, over(63, word(2, 0, 0, 50))), heardAt(-1, word(3, 2, 0, 50))}
	for _, a := range words {
		f := node(t, 5, rules(3, 0, 1, 0))
		heard(t, f, 40, word(3, 1, 8, 140), elect.Moved, 1)
		rounds(f, 41, 2)
		heard(t, f, a.local, a.word, elect.Refused, 1)
		if m, ok := f.Mark(); m != (elect.Mark{Boot: 1, Seq: 8}) || !ok || f.Root() != 3 {
			t.Errorf("%v: %v, %d", a, m, f.Root())
		}
		tells(t, f, 60, 160, 1)
		says(t, f, 60, word(5, 0, 1, 60))
		heard(t, f, 61, word(3, 1, 9, 161), elect.Moved, 1)
	}
}

// rounds are so many, whatever is said in them.
func rounds(f *Flood, local, many int) {
	for range many {
		f.Beat(local)
	}
}

// P16.1: who said it last is nobody that the node looks at.
func TestFromPlaysNoPart(t *testing.T) {
	for _, from := range []int{least, -1, 0, 1, 3, 4, 5, 6, 63, 64, greatest} {
		f := node(t, 5, rules(3, 0, 2, 0))
		s := over(4, word(3, 1, 1, 1100))
		s.From = from
		heard(t, f, 1000, s, elect.Moved, 1)
		s.Seq, s.Time = 2, 2100
		heard(t, f, 2000, s, elect.Took, 2)
		says(t, f, 2001, frame.Sync{From: 5, Root: 3, Boot: 1, Seq: 2, Hops: 5, Time: 2101})
	}
}

// P16.1: roots that are none to go by, marks that aren't new, and words that a root doesn't hear yet.
func TestWordsThatLayer15Refuses(t *testing.T) {
	past := []act{heardAt(1000, over(2, word(3, 4, 7, 1500))), heardAt(2000, over(2, word(3, 4, 8, 2500)))}
	for _, s := range []frame.Sync{word(3, 4, 8, 9), word(3, 4, 7, 9), word(3, 3, 9, 9), word(3, 4+half, 9, 9), word(4, 9, 9, 9), word(5, 9, 9, 9), word(6, 9, 9, 9), word(63, 9, 9, 9), word(64, 9, 9, 9), word(-1, 9, 9, 9), word(least, 9, 9, 9), word(greatest, 9, 9, 9)} {
		f := nodeOf(t, 5, rules(9, 0, 2, 10), past...)
		heard(t, f, 3000, s, elect.Refused, 2)
		tells(t, f, 3000, 3500, 3)
		says(t, f, 3000, frame.Sync{From: 5, Root: 3, Boot: 4, Seq: 8, Hops: 3, Time: 3500})
	}
	f := nodeOf(t, 5, rules(1, 2, 1, 0), beatAt(5))
	for _, a := range []act{heardAt(6, word(3, 0, 1, 9)), beatAt(7), heardAt(8, word(0, 0, 1, 9)), beatAt(9)} {
		if a.kind == beat {
			f.Beat(a.local)
			continue
		}
		heard(t, f, a.local, a.word, elect.Refused, 0)
		tells(t, f, 77, 77, 0)
	}
	heard(t, f, 10, word(3, 0, 1, 9), elect.Moved, 1)
	tells(t, f, 77, 76, 1)
}

// P16.1, P16.2: of another root, and of another life, however many entries there were, nothing is left of what was.
func TestWhatWasIsForgottenWhereItMoves(t *testing.T) {
	for n := 1; n <= 10; n++ {
		for _, s := range []frame.Sync{word(2, 0, 0, 5), word(0, 9, 9, maxTime), word(3, 5, 0, 77), word(3, 4+half-1, 0, 77)} {
			for _, local := range []int{0, 999, 1000, 1000 * n, 1000*n + 1, 90000, maxTime} {
				f := node(t, 5, rules(9, 0, 1, 10))
				for i := 1; i <= n; i++ {
					heard(t, f, 1000*i, over(60, word(3, 4, uint16(i), 1001*i+5)), verdictOn(i), min(i, 8))
				}
				heard(t, f, local, s, elect.Moved, 1)
				tells(t, f, local, s.Time, 1)
				if f.Root() != s.Root {
					t.Errorf("root %d", f.Root())
				}
				s.From, s.Hops = 5, 1
				says(t, f, local, s)
				s.From, s.Hops = s.Root, 0
			}
		}
	}
}

// P16.1, P16.2: a node that needs more entries is synced no more, where it moved.
func TestANodeThatMovedKnowsTooLittle(t *testing.T) {
	for need := 2; need <= 8; need++ {
		f := node(t, 9, rules(50, 0, need, 10))
		fills(t, f, word(7, 1, 1, 0), need)
		for _, s := range []frame.Sync{word(7, 2, 1, 0), word(6, 0, 1, 0), word(6, 1, 0, 0), word(0, 0, 0, 0)} {
			heard(t, f, 500000, s, elect.Moved, 1)
			if f.Synced() {
				t.Fatalf("Need %d: %v", need, s)
			}
			untold(t, f, 500000, api.ErrUnsync)
			untold(t, f, -1, api.ErrUnsync)
			silent(t, f, 500000)
			s.Seq++
			fillsMore(t, f, s, need)
		}
	}
}

// fills: words of a root's life come, the first of which moves the node, till it has so many entries.
func fills(t *testing.T, f *Flood, s frame.Sync, entries int) {
	t.Helper()
	heard(t, f, 1000, s, elect.Moved, 1)
	s.Seq++
	fillsMore(t, f, s, entries)
}

// fillsMore: more of them come, later than the one that there is.
func fillsMore(t *testing.T, f *Flood, s frame.Sync, entries int) {
	t.Helper()
	for n := 2; n <= entries; n++ {
		s.Time = 600000 + 1000*n
		heard(t, f, 600000+1000*n, s, elect.Took, n)
		s.Seq++
	}
	if !f.Synced() {
		t.Fatalf("%d entries are too few", entries)
	}
}

// P16.1: there are never more than eight, and the eldest goes, with its offset and its hops.
func TestTheEldestEntryGoes(t *testing.T) {
	f := node(t, 5, rules(9, 0, 1, 0))
	for i := 1; i <= 40; i++ {
		// Each word comes over fewer hops, and of a time that is farther ahead by 80.
		heard(t, f, 1000*i, over(62-i, word(3, 1, uint16(i), 1080*i)), verdictOn(i), min(i, 8))
		first := max(1, i-7)
		// With a drift of 0 there is no slope: the time is ahead by the offsets' mean.
		tells(t, f, 100000, 100000+40*(first+i), 63-first)
		says(t, f, 1000*i+7, frame.Sync{From: 5, Root: 3, Boot: 1, Seq: uint16(i), Hops: 63 - i, Time: 1080*i + 7})
	}
}

// P16.1: of the newest entry's Local, one below, and far below: the table is emptied, and the entry is its only one.
func TestTimesThatDontRise(t *testing.T) {
	for n := 1; n <= 9; n++ {
		last := 1000 * n
		for _, local := range []int{last, last - 1, last - 2, last - 999, 999, 500, 1, 0} {
			f := node(t, 5, rules(9, 0, 2, 0))
			for i := 1; i <= n; i++ {
				heard(t, f, 1000*i, over(9, word(3, 1, uint16(i), 1000*i+70)), verdictOn(i), min(i, 8))
			}
			heard(t, f, local, over(2, word(3, 1, 50, local+30)), elect.Took, 1)
			if f.Synced() {
				t.Errorf("%d entries, at %d", n, local)
			}
			untold(t, f, local, api.ErrUnsync)
			silent(t, f, local)
			// What comes behind it is told from it on alone.
			heard(t, f, local+1, over(3, word(3, 1, 51, local+41)), elect.Took, 2)
			tells(t, f, local+500, local+535, 4)
			says(t, f, local+2, frame.Sync{From: 5, Root: 3, Boot: 1, Seq: 51, Hops: 4, Time: local + 42})
		}
	}
}

// P16.1: one tick later is enough; of the last time there is no later one.
func TestTimesThatRise(t *testing.T) {
	f := node(t, 5, rules(9, 0, 1, 0))
	heard(t, f, 0, word(3, 1, 1, 7), elect.Moved, 1)
	for i := 1; i < 8; i++ {
		heard(t, f, i, word(3, 1, uint16(1+i), 7+i), elect.Took, 1+i)
	}
	heard(t, f, maxTime-1, word(3, 1, 10, 0), elect.Took, 8)
	heard(t, f, maxTime, word(3, 1, 11, 0), elect.Took, 8)
	heard(t, f, maxTime, word(3, 1, 12, 5), elect.Took, 1)
	tells(t, f, maxTime, 5, 1)
	heard(t, f, maxTime-1, word(3, 1, 13, 9), elect.Took, 1)
	tells(t, f, maxTime, 10, 1)
	heard(t, f, 0, word(3, 1, 14, maxTime), elect.Took, 1)
	tells(t, f, 0, maxTime, 1)
}

// P16.1: the root's clock is behind, just the same, or ahead.
func TestOffsets(t *testing.T) {
	for _, offset := range []int{-maxTime, 1 - maxTime, -1 << 32, -5000, -1, 0, 1, 5000, 1 << 32, maxTime - 1, maxTime} {
		f := node(t, 5, rules(9, 0, 1, 10))
		local := max(0, -offset)
		heard(t, f, local, word(3, 1, 1, local+offset), elect.Moved, 1)
		for _, at := range []int{0, 1, 4999, 5000, 5001, local - 1, local, local + 1, local + 70, maxTime - 5000, maxTime - 1, maxTime} {
			switch {
			case !isOne(at) || !isOne(at+offset):
				untold(t, f, at, api.ErrOver)
				silent(t, f, at)
			default:
				tells(t, f, at, at+offset, 1)
				says(t, f, at, frame.Sync{From: 5, Root: 3, Boot: 1, Seq: 1, Hops: 1, Time: at + offset})
			}
			heard(t, f, local, word(3, 1, 1, local+offset), elect.Refused, 1)
			f = node(t, 5, rules(9, 0, 1, 10))
			heard(t, f, local, word(3, 1, 1, local+offset), elect.Moved, 1)
		}
	}
}

// P16.1, P16.2: one less than it needs, just as many, and more.
func TestSynced(t *testing.T) {
	for need := 1; need <= 8; need++ {
		f := node(t, 5, rules(50, 0, need, 10))
		for i := 1; i <= 12; i++ {
			heard(t, f, 1000*i, word(3, 1, uint16(i), 1000*i+5), verdictOn(i), min(i, 8))
			if f.Synced() != (i >= need) {
				t.Errorf("Need %d: %d entries, %v", need, i, f.Synced())
			}
			if i < need {
				untold(t, f, 1000*i, api.ErrUnsync)
				silent(t, f, 1000*i)
			} else {
				tells(t, f, 1000*i, 1000*i+5, 1)
				says(t, f, 1000*i, frame.Sync{From: 5, Root: 3, Boot: 1, Seq: uint16(i), Hops: 1, Time: 1000*i + 5})
			}
		}
	}
}

// P16.1: whatever it needs, and however it came to be the root.
func TestARootIsSynced(t *testing.T) {
	for need := 1; need <= 8; need++ {
		for _, past := range [][]act{nil, {heardAt(10, word(3, 1, 1, 50))}, {heardAt(10, word(3, 1, 1, 50)), heardAt(20, word(3, 1, 2, 60)), heardAt(30, word(2, 1, 2, 60))}, {act{kind: boot, life: 9}}} {
			f := nodeOf(t, 5, rules(2, 0, need, 10), append(past, beatAt(40), beatAt(41))...)
			if !f.Synced() || f.Entries() != 0 || !f.Mine() {
				t.Errorf("Need %d, %v: %v, %d", need, past, f.Synced(), f.Entries())
			}
			for _, local := range []int{0, 1, 30, maxTime - 1, maxTime} {
				tells(t, f, local, local, 0)
			}
			for _, local := range []int{least, -1, maxTime + 1, greatest} {
				untold(t, f, local, api.ErrOver)
			}
		}
	}
}

// P16.1: rounds of a node that goes by nobody, till it takes itself for the root, and of that.
func TestANodeWithoutARootSaysNothing(t *testing.T) {
	for _, timeout := range []int{1, 2, 3, 10, 257, 1000} {
		for _, me := range []int{0, 1, 63} {
			f := node(t, me, rules(timeout, 0, 1, 0))
			for i := 1; i < timeout; i++ {
				silent(t, f, i)
				untold(t, f, i, api.ErrUnsync)
			}
			says(t, f, 7, word(me, 0, 1, 7))
			says(t, f, 9, word(me, 0, 2, 9))
		}
	}
}

// P16.1: at the round at which a node takes itself for the root it knows nothing more of the one that it had, and says its first word.
func TestANodeThatTakesItselfForTheRoot(t *testing.T) {
	for n := 1; n <= 9; n++ {
		for need := 1; need <= 8; need++ {
			f := node(t, 5, rules(3, 0, need, 10))
			for i := 1; i <= n; i++ {
				heard(t, f, 1000*i, over(4, word(3, 1, uint16(i), 1000*i+70)), verdictOn(i), min(i, 8))
			}
			rounds(f, 20000, 2)
			if f.Mine() || f.Entries() != min(n, 8) {
				t.Fatalf("%d, %d entries", f.Root(), f.Entries())
			}
			says(t, f, 30000, word(5, 0, 1, 30000))
			if !f.Mine() || f.Entries() != 0 || !f.Synced() {
				t.Fatalf("%d, %d entries", f.Root(), f.Entries())
			}
			tells(t, f, 7, 7, 0)
			// Of what was ahead of that nothing is left.
			heard(t, f, 900000, over(1, word(3, 1, 40, 5)), elect.Moved, 1)
			if need == 1 {
				tells(t, f, 900001, 6, 2)
			}
		}
	}
}

// P16.1: where the own time is none, nothing is said, though the round is over: the waiting goes on, and so do the rounds in which no other one is heard.
func TestRoundsAtTimesThatAreNone(t *testing.T) {
	for _, local := range edges {
		f := node(t, 5, rules(2, 2, 1, 0))
		heard(t, f, 1000, word(3, 1, 1, 1000), elect.Moved, 1)
		if !isOne(local) {
			silent(t, f, local)
			silent(t, f, local)
		} else {
			says(t, f, local, frame.Sync{From: 5, Root: 3, Boot: 1, Seq: 1, Hops: 1, Time: local})
			says(t, f, local, word(5, 0, 1, local))
		}
		if !f.Mine() || f.Entries() != 0 || !f.Synced() {
			t.Fatalf("at %d: %d", local, f.Root())
		}
		heard(t, f, 5, word(3, 1, 2, 5), elect.Refused, 0)
		rounds(f, local, 1)
		heard(t, f, 5, word(3, 1, 2, 5), elect.Refused, 0)
		rounds(f, local, 1)
		// No word was wasted on a time that is none.
		next := uint16(1)
		if isOne(local) {
			next = 4
		}
		if m, ok := f.Issue(); m != (elect.Mark{Seq: next}) || !ok {
			t.Errorf("at %d: %v, %v", local, m, ok)
		}
		heard(t, f, 5, word(3, 1, 2, 5), elect.Moved, 1)
	}
}

// P16.1: a root's own words count on, over no hops, with its own time, whatever times come between.
func TestARootsOwnWords(t *testing.T) {
	for _, b := range []uint16{0, 1, 7, half, 2*half - 1} {
		f := node(t, 5, rules(1, 0, 8, 10))
		f.Boot(b)
		seq := uint16(0)
		for _, local := range []int{7, 8, 8, 5, 0, maxTime, 1, maxTime - 1, 1000, 1 << 32} {
			seq++
			says(t, f, local, word(5, b, seq, local))
			silent(t, f, -1)
			silent(t, f, maxTime+1)
			silent(t, f, least)
			silent(t, f, greatest)
			if m, ok := f.Mark(); m != (elect.Mark{Boot: b, Seq: seq}) || !ok {
				t.Fatalf("%v, %v", m, ok)
			}
		}
		// Issue is the node's own call, and takes a number.
		if m, ok := f.Issue(); m != (elect.Mark{Boot: b, Seq: 11}) || !ok {
			t.Fatalf("%v, %v", m, ok)
		}
		says(t, f, 3, word(5, b, 12, 3))
		// While another one is the root no numbers are used up.
		heard(t, f, 4, word(1, 0, 0, 4), elect.Moved, 1)
		says(t, f, 5, word(5, b, 13, 5))
	}
}

// P16.1: numbers go past the last one, and from 1 on again in another life.
func TestARootsNumbersGoRound(t *testing.T) {
	f := node(t, 0, rules(1, 0, 1, 0))
	for _, b := range []uint16{0, 3, 3} {
		if b != 0 {
			f.Boot(b)
		}
		for i := 1; i <= 2*half+3; i++ {
			says(t, f, i, word(0, b, uint16(i), i))
		}
	}
}

// P16.1, P16.3: with the root's mark, the hops of the word and one more, and the time of the word and what went by since, whatever the map tells.
func TestANodePassesOn(t *testing.T) {
	f := node(t, 5, rules(1000, 0, 3, 10))
	heard(t, f, 1000, over(9, word(3, 7, 2*half-2, 5000)), elect.Moved, 1)
	heard(t, f, 2000, over(0, word(3, 7, 2*half-1, 6005)), elect.Took, 2)
	heard(t, f, 3000, over(61, word(3, 7, 0, 7025)), elect.Took, 3)
	for _, local := range []int{3000, 3001, 4000, 2999, 1000, 0, 3000, 1 << 40, maxTime - 4025} {
		says(t, f, local, frame.Sync{From: 5, Root: 3, Boot: 7, Seq: 0, Hops: 62, Time: 7025 + local - 3000})
	}
	// Time is told of all entries.
	if g, h, code := f.Time(4000); g == 8025 || h != 62 || code != api.OK {
		t.Errorf("%d, %d, %d", g, h, code)
	}
	heard(t, f, 4000, over(30, word(3, 7, 1, 8000)), elect.Took, 4)
	says(t, f, 4500, frame.Sync{From: 5, Root: 3, Boot: 7, Seq: 1, Hops: 31, Time: 8500})
	if _, h, _ := f.Time(4500); h != 62 {
		t.Errorf("%d hops", h)
	}
}

// P16.1: times of the root that are below 0, or above the last one, aren't said, and the round is over all the same.
func TestFramesThatCantBe(t *testing.T) {
	for _, x := range []struct{ heard, time, local int }{
		{1000, 0, 999}, {1000, 0, 0}, {1000, 999, 0}, {maxTime, 0, maxTime - 1}, {maxTime, 0, 0}, {maxTime, maxTime - 1, 0},
		{0, maxTime, 1}, {0, maxTime, maxTime}, {0, 1, maxTime}, {0, maxTime - 1, 2}, {5, maxTime, 6}, {maxTime - 1, maxTime, maxTime},
	} {
		f := node(t, 5, rules(3, 0, 1, 10))
		heard(t, f, x.heard, over(4, word(3, 1, 1, x.time)), elect.Moved, 1)
		silent(t, f, x.local)
		if f.Entries() != 1 || !f.Synced() || f.Root() != 3 {
			t.Errorf("%v: %d, %d", x, f.Entries(), f.Root())
		}
		says(t, f, x.heard, frame.Sync{From: 5, Root: 3, Boot: 1, Seq: 1, Hops: 5, Time: x.time})
		says(t, f, x.local, word(5, 0, 1, x.local))
	}
}

// P16.1: just at the ends of what may be.
func TestFramesThatJustCanBe(t *testing.T) {
	for _, x := range []struct{ heard, time, local, says int }{
		{1000, 1, 999, 0}, {1000, 1000, 0, 0}, {maxTime, maxTime, 0, 0}, {maxTime, 1, maxTime - 1, 0},
		{0, maxTime - 1, 1, maxTime}, {0, 0, maxTime, maxTime}, {5, maxTime - 5, 10, maxTime}, {maxTime, 0, maxTime, 0}, {0, maxTime, 0, maxTime},
	} {
		f := node(t, 5, rules(3, 0, 1, 10))
		heard(t, f, x.heard, over(62, word(3, 1, 1, x.time)), elect.Moved, 1)
		says(t, f, x.local, frame.Sync{From: 5, Root: 3, Boot: 1, Seq: 1, Hops: 63, Time: x.says})
	}
}

// P16.1: the errors in their order, of own times at the edges.
func TestTimesErrors(t *testing.T) {
	var none *Flood
	fresh := node(t, 5, rules(1, 0, 2, 10))
	one := nodeOf(t, 5, rules(9, 0, 2, 10), heardAt(50, word(3, 1, 1, 50)))
	root := nodeOf(t, 5, rules(1, 0, 2, 10), beatAt(5))
	synced := nodeOf(t, 5, rules(9, 0, 1, 10), heardAt(50, word(3, 1, 1, 50)))
	for _, local := range edges {
		untold(t, none, local, api.ErrNil)
		untold(t, fresh, local, api.ErrUnsync)
		untold(t, one, local, api.ErrUnsync)
		if !isOne(local) {
			untold(t, root, local, api.ErrOver)
			untold(t, synced, local, api.ErrOver)
			continue
		}
		tells(t, root, local, local, 0)
		tells(t, synced, local, local, 1)
	}
}

// P16.1: what layer 14 tells of the Drift and the entries, at each drift; nothing where that tells nothing.
func TestTimeIsLayer14s(t *testing.T) {
	var s spread = 14
	for drift := range 11 {
		for range 120 {
			f := node(t, 5, rules(9, 0, 1, drift))
			local, ahead := s.between(0, 5000), s.between(-5000, 5000)
			if s.between(0, 3) == 0 {
				local, ahead = maxTime-s.between(0, 20000), s.between(-9000, 9000)
			}
			var list []table.Entry
			for i := range s.between(1, 12) {
				local, ahead = local+s.between(1, 2000), ahead+s.between(-20, 20)
				e := table.Entry{Local: local, Offset: ahead, Hops: s.between(1, 63)}
				if !isOne(local) || !isOne(local+ahead) {
					break
				}
				if f.Hear(over(e.Hops-1, word(3, 1, uint16(i), local+ahead)), local) == elect.Refused {
					t.Fatalf("%v is refused", e)
				}
				list = append(list, e)
			}
			list = list[max(0, len(list)-8):]
			for _, at := range []int{0, 1, 5000, local - 1, local, local + 1, local + 1000, local + 1<<20, maxTime - 5000, maxTime - 1, maxTime} {
				want := told{code: api.ErrOver}
				if len(list) == 0 {
					want.code = api.ErrUnsync
				} else if isOne(at) {
					want = layer14(drift, at, list)
				}
				var got told
				if got.global, got.hops, got.code = f.Time(at); got != want {
					t.Fatalf("drift %d, %v, at %d: %v, and not %v", drift, list, at, got, want)
				}
			}
		}
	}
}

// P16.1: by hand: of a drift of 0 there is no slope, of 10 there is, up to the greatest one.
func TestTheDriftBoundsTheSlope(t *testing.T) {
	for _, x := range []struct{ drift, gained, at, want int }{
		{0, 10, 1500, 1605}, {0, 10, 3500, 3605}, {10, 10, 1500, 1605}, {10, 10, 3500, 3625}, {10, 10, 500, 595},
		{10, 100, 1500, 1650}, {10, 100, 3480, 3670}, {10, -10, 3500, 3575}, {10, -100, 3480, 3490}, {1, 10, 2499, 2606}, {0, -10, 3500, 3595},
	} {
		f := node(t, 5, rules(9, 0, 1, x.drift))
		heard(t, f, 1000, word(3, 1, 1, 1100), elect.Moved, 1)
		heard(t, f, 2000, word(3, 1, 2, 2100+x.gained), elect.Took, 2)
		tells(t, f, x.at, x.want, 1)
	}
}

// P16.1: the most of all entries.
func TestHopsAreTheMostOfAll(t *testing.T) {
	for greatest := range 8 {
		f := node(t, 5, rules(9, 0, 8, 0))
		for i := range 8 {
			hops := 10 + i%3
			if i == greatest {
				hops = 50
			}
			f.Hear(over(hops, word(3, 1, uint16(i), 1000*i)), 1000*i)
		}
		tells(t, f, 8000, 8000, 51)
		f.Hear(over(3, word(3, 1, 9, 9000)), 9000)
		want := 51
		if greatest == 0 {
			want = 13
		}
		tells(t, f, 9000, 9000, want)
	}
}

// sounding is a row of acts that brings to light all that a node knows.
func sounding(me int) []act {
	var acts []act
	local := 100000
	for root := min(me, 3); root >= 0; root-- {
		for _, m := range marksAround {
			local += 500
			acts = append(acts, heardAt(local, over(root, word(root, m.Boot, m.Seq, local+7*root))), beatAt(local+1))
		}
	}
	beats := []act{beatAt(local + 2000), {kind: issue}, beatAt(local + 2001), beatAt(local + 2002), beatAt(local + 2003)}
	return slices.Concat(beats[:1], acts, beats, acts, beats)
}

// marksAround are marks of which some are newer than others, some past the last number, some half the way round apart.
var marksAround = []elect.Mark{{Boot: 0, Seq: 0}, {Boot: 0, Seq: 1}, {Boot: 0, Seq: half}, {Boot: 0, Seq: 2*half - 1}, {Boot: 1, Seq: 0}, {Boot: 1, Seq: 1}, {Boot: half, Seq: 1}, {Boot: 2*half - 1, Seq: 0}, {Boot: 2*half - 1, Seq: 2*half - 1}}

// drawnWord is a word of a root, that is seldom one that can't be, at a time of the own clock.
func drawnWord(s *spread, me, local int) act {
	root := s.between(0, max(0, me-1))
	if s.between(0, 9) == 0 {
		root = []int{least, -1, me, me + 1, 63, 64, greatest}[s.between(0, 6)]
	}
	m := marksAround[s.between(0, len(marksAround)-1)]
	w := over(s.between(0, 62), word(root, m.Boot, m.Seq, local+s.between(-300, 300)))
	if s.between(0, 9) == 0 {
		w.Hops = []int{least, -1, 63, 64, 256, greatest}[s.between(0, 5)]
	}
	if s.between(0, 9) == 0 {
		w.Time = edges[s.between(0, len(edges)-1)]
	}
	if s.between(0, 14) == 0 {
		local = edges[s.between(0, len(edges)-1)]
	}
	return heardAt(local, w)
}

// drawnActs are so many acts, of a clock that mostly goes on.
func drawnActs(s *spread, me, n int) []act {
	var acts []act
	local, seq := s.between(0, 2000), uint16(s.between(0, 2*half-1))
	for range n {
		local += s.between(0, 1200)
		switch s.between(0, 29) {
		case 0:
			acts = append(acts, act{kind: boot, local: local, life: marksAround[s.between(0, len(marksAround)-1)].Boot})
		case 1:
			acts = append(acts, act{kind: issue, local: local})
		case 2, 3, 4, 5:
			acts = append(acts, beatAt(local))
		case 6:
			acts = append(acts, beatAt(edges[s.between(0, len(edges)-1)]))
		case 7:
			local = s.between(0, local)
		case 8, 9, 10, 11, 12, 13:
			acts = append(acts, drawnWord(s, me, local))
		default:
			seq += uint16(s.between(0, 3))
			acts = append(acts, heardAt(local, over(s.between(0, 62), word(s.between(0, min(2, max(0, me-1))), 5, seq, local+s.between(0, 300)))))
		}
	}
	return acts
}

// P16.1: a word that is refused changes nothing, of all that the node tells at once or later on.
func TestARefusedWordChangesNothing(t *testing.T) {
	var s spread = 16
	refused := 0
	for refused < 1500 {
		me := s.between(0, 4)
		r := rules(s.between(1, 4), s.between(0, 4), s.between(1, 4), s.between(0, 10))
		acts := drawnActs(&s, me, s.between(0, 25))
		a := drawnWord(&s, me, 30000)
		f := nodeOf(t, me, r, acts...)
		was := telling(f, 31000)
		if f.Hear(a.word, a.local) != elect.Refused {
			continue
		}
		refused++
		if is := telling(f, 31000); is != was {
			t.Fatalf("%v, %v: %v became %v by %v", r, acts, was, is, a)
		}
		other := nodeOf(t, me, r, acts...)
		for i, b := range sounding(me) {
			if got, want := does(f, b), does(other, b); got != want {
				t.Fatalf("%v, %v: by %v the answer to act %d, %v, is\n%v, and not\n%v", r, acts, a, i, b, got, want)
			}
		}
	}
}

// P16.1: what is asked changes nothing, as often as it is.
func TestAskingChangesNothing(t *testing.T) {
	var s spread = 61
	for range 200 {
		r := rules(s.between(1, 4), s.between(0, 4), s.between(1, 4), s.between(0, 10))
		acts := drawnActs(&s, 4, 40)
		f, other := node(t, 4, r), node(t, 4, r)
		for _, a := range acts {
			got, want := does(f, a), does(other, a)
			for range 3 {
				telling(f, s.between(0, 50000))
			}
			if got != want {
				t.Fatalf("%v, %v: %v, and not %v", r, a, got, want)
			}
		}
	}
}

// P16.1: of a node that has a root, entries and a point, of the root itself, and of others: all is as in a new one, but for the boot.
func TestANewLife(t *testing.T) {
	r := rules(3, 2, 2, 10)
	taken := []act{heardAt(1000, over(3, word(2, 1, 8, 1700))), heardAt(2000, over(3, word(2, 1, 9, 2705)))}
	crowned := []act{beatAt(5000), beatAt(6000), beatAt(7000), {kind: issue}}
	pasts := map[string][]act{
		"new":            nil,
		"waiting":        {beatAt(5), beatAt(9)},
		"with one entry": taken[:1],
		"synced":         taken,
		"waiting synced": slices.Concat(taken, crowned[:2]),
		"the root":       crowned,
		"given up":       slices.Concat(taken, crowned),
		"in other lives": slices.Concat([]act{{kind: boot, life: 5}}, crowned, []act{{kind: boot, life: 2*half - 1}}, taken),
	}
	for name, past := range pasts {
		for _, b := range []uint16{0, 1, 2, 5, half, 2*half - 1} {
			f, fresh := nodeOf(t, 6, r, past...), node(t, 6, r)
			f.Boot(b)
			fresh.Boot(b)
			if f.Synced() || f.Entries() != 0 || f.Root() != -1 || f.Mine() {
				t.Errorf("%s: %v, %d, %d", name, f.Synced(), f.Entries(), f.Root())
			}
			untold(t, f, 5, api.ErrUnsync)
			for i, a := range sounding(6) {
				if got, want := does(f, a), does(fresh, a); got != want {
					t.Fatalf("%s, act %d, %v:\n%v, and not\n%v", name, i, a, got, want)
				}
			}
			f.Boot(b)
			// What was taken in another life is taken again, from an empty table on.
			heard(t, f, 1000, taken[0].word, elect.Moved, 1)
			silent(t, f, 1000)
			heard(t, f, 2000, taken[1].word, elect.Took, 2)
			says(t, f, 2000, frame.Sync{From: 6, Root: 2, Boot: 1, Seq: 9, Hops: 4, Time: 2705})
			f.Boot(b)
			silent(t, f, 1)
			silent(t, f, 2)
			says(t, f, 3, word(6, b, 1, 3))
		}
	}
}

// P16.1: every call of the chapter's.
func TestANilNode(t *testing.T) {
	var f *Flood
	f.Boot(0)
	f.Boot(9)
	if f.Synced() || f.Entries() != 0 {
		t.Errorf("%v, %d", f.Synced(), f.Entries())
	}
	for _, local := range edges {
		untold(t, f, local, api.ErrNil)
		silent(t, f, local)
		for _, root := range []int{least, -1, 0, 1, 63, greatest} {
			heard(t, f, local, word(root, 1, 1, 5), elect.Refused, 0)
		}
	}
}

// watch is what is asked of a node in any order of calls: the words that it took, in a row, of the root and the life of the last one.
type watch struct {
	me   int
	need int
	of   elect.Mark // the life alone counts
	root int
	took []act
}

// sees fails, if a node's answer to an act breaks what holds in every order.
func (w *watch) sees(t *testing.T, a act, r answer) {
	t.Helper()
	if a.kind == boot || r.mine {
		w.took = nil
	}
	if r.verdict != elect.Refused {
		if a.word.Root != w.root || a.word.Boot != w.of.Boot {
			w.took = nil
		}
		w.root, w.of.Boot = a.word.Root, a.word.Boot
		w.took = append(w.took, a)
	}
	if r.entries > len(w.took) || r.entries > 0 && (r.root != w.root || r.mark.Boot != w.of.Boot) {
		t.Fatalf("node %d, root %d, %v: %d entries behind %v", w.me, r.root, r.mark, r.entries, w.took)
	}
	if r.synced && !r.mine && (r.entries < w.need || r.root < 0) {
		t.Fatalf("node %d, root %d: it is synced with %d entries", w.me, r.root, r.entries)
	}
	if a.kind != beat || !r.yes || r.mine {
		return
	}
	last := w.took[len(w.took)-1].word
	if s := r.said; s.Root != last.Root || s.Boot != last.Boot || s.Seq != last.Seq || s.Hops != last.Hops+1 || s.From != w.me {
		t.Fatalf("node %d: %v became %v", w.me, last, s)
	}
}

// watched fails, unless a node answers to acts as the rules say, and nothing that holds in every order is broken.
func watched(t *testing.T, me int, r Rules, acts []act) {
	t.Helper()
	f, p, w := node(t, me, r), plainNode(me, r), watch{me: me, need: r.Need}
	for i, a := range acts {
		got, want := does(f, a), p.does(a)
		if got != want {
			t.Fatalf("node %d, %v, act %d of %v:\n%v, and not\n%v", me, r, i, acts, got, want)
		}
		w.sees(t, a, got)
	}
}

// P16.1, P16.2, P16.3: all orders of a few acts.
func TestEveryOrderOfAFewActs(t *testing.T) {
	acts := []act{beatAt(1000), beatAt(-1), {kind: boot, life: 1}, heardAt(500, word(1, 0, 0, 700)), heardAt(900, over(1, word(1, 0, 1, 1110))), heardAt(700, over(2, word(1, 0, 2, 900))), heardAt(800, over(3, word(0, 1, 1, 300))), heardAt(801, word(0, 2, 0, 9))}
	for _, r := range []Rules{rules(1, 0, 1, 0), rules(2, 1, 2, 10), rules(3, 0, 2, 5)} {
		for pattern := range 1 << (3 * 5) {
			row := make([]act, 0, 5)
			for rest := pattern; len(row) < 5; rest /= 8 {
				row = append(row, acts[rest%8])
			}
			watched(t, 2, r, row)
		}
	}
}

// P16.1, P16.2, P16.3: drawn acts of all nodes and rules.
func TestDrawnActs(t *testing.T) {
	var s spread = 160
	for range 2500 {
		me := s.between(0, 63)
		if s.between(0, 1) == 0 {
			me = s.between(0, 5)
		}
		r := rules(s.between(1, 6), s.between(0, 6), s.between(1, 8), s.between(0, 10))
		if s.between(0, 2) == 0 {
			r.Timeout = 1000
		}
		watched(t, me, r, drawnActs(&s, me, s.between(1, 120)))
	}
}

// ahead is by how much the clock of a root is ahead in one of its lives: no two are near one another.
func ahead(root int, b uint16) int {
	return 1000000 * (1 + 8*root + int(b))
}

// P16.2: the time that is told is that of the root that the node goes by, in the life that its mark names, and nothing of others is mixed in.
func TestTheTimeIsOfOneRootInOneLife(t *testing.T) {
	var s spread = 162
	told := 0
	for range 400 {
		need := s.between(1, 8)
		f := node(t, 9, rules(s.between(2, 30), s.between(0, 3), need, s.between(0, 10)))
		local := 0
		var next elect.Mark
		for range 150 {
			local += s.between(1, 1000)
			root := []int{3, 3, 3, 3, 3, 5, 8}[s.between(0, 6)]
			next.Seq++
			if s.between(0, 20) == 0 {
				next = elect.Mark{Boot: (next.Boot + 1) % 8}
			}
			if s.between(0, 3) == 0 {
				f.Beat(local)
			} else {
				f.Hear(word(root, next.Boot, next.Seq, local+ahead(root, next.Boot)), local)
			}
			global, _, code := f.Time(local)
			if code != api.OK || f.Mine() {
				continue
			}
			told++
			if m, _ := f.Mark(); global != local+ahead(f.Root(), m.Boot) || f.Entries() < need {
				t.Fatalf("at %d, of root %d, %v, %d entries: %d", local, f.Root(), m, f.Entries(), global)
			}
		}
	}
	if told < 1000 {
		t.Errorf("the time is told %d times alone", told)
	}
}

// P16.3: from node to node, each of which is ahead of the root's clock by something else, till there are too many hops.
func TestWordsGoThroughARow(t *testing.T) {
	row := make([]*Flood, 64)
	for i := range row {
		row[i] = node(t, i, rules(2, 0, 2, 10))
	}
	row[0].Boot(9)
	silent(t, row[0], 0)
	for seq := uint16(1); seq <= 5; seq++ {
		now := 10000 * int(seq)
		said, ok := row[0].Beat(now)
		if want := word(0, 9, seq, now); said != want || !ok {
			t.Fatalf("%v, %v; and not %v", said, ok, want)
		}
		for i := 1; i < 64; i++ {
			local := now + 100*i + i
			if v := row[i].Hear(said, local); v == elect.Refused {
				t.Fatalf("node %d: %v is refused", i, said)
			}
			// Two ticks go by till it says it on.
			said.Time += 2
			said.From, said.Hops = i, i
			if seq == 1 {
				silent(t, row[i], local+2)
			} else {
				says(t, row[i], local+2, said)
				tells(t, row[i], local, said.Time-2, i)
			}
			row[i].Hear(said, local+3)
		}
		// What came over as many hops as there may be is heard by nobody any more.
		last := node(t, 62, rules(2, 0, 2, 10))
		heard(t, last, now, said, elect.Refused, 0)
	}
}

// P16.3, P16.2: in a network that hears now and then, each word was said by its root, and came a hop farther from node to node.
func TestWordsOfANetworkAreTheirRoots(t *testing.T) {
	for seed := range 60 {
		s := spread(seed)
		nodes := make([]*Flood, s.between(2, 7))
		for i := range nodes {
			nodes[i] = node(t, i, rules(s.between(1, 5), s.between(0, 4), s.between(1, 3), 10))
		}
		type issued struct {
			root int
			mark elect.Mark
		}
		said := map[issued]bool{}
		hops := make([]int, len(nodes))
		lives := make([]uint16, len(nodes))
		for step := range 600 {
			i := s.between(0, len(nodes)-1)
			if s.between(0, 60) == 0 {
				lives[i]++
				nodes[i].Boot(lives[i])
			}
			w, ok := nodes[i].Beat(1000 * step)
			if !ok {
				continue
			}
			mark := elect.Mark{Boot: w.Boot, Seq: w.Seq}
			switch {
			case w.From != i:
				t.Fatalf("node %d says %v", i, w)
			case w.Root == i:
				if w.Hops != 0 || w.Boot != lives[i] || said[issued{i, mark}] {
					t.Fatalf("root %d, in life %d, says %v", i, lives[i], w)
				}
				said[issued{i, mark}] = true
			case !said[issued{w.Root, mark}] || w.Hops != hops[i]+1:
				t.Fatalf("node %d, which heard of it over %d hops, says %v", i, hops[i], w)
			}
			for k := range nodes {
				if k != i && s.between(0, 2) > 0 && nodes[k].Hear(w, 1000*step+k) != elect.Refused {
					hops[k] = w.Hops
				}
			}
		}
	}
}

// P16.1: nodes know nothing of one another.
func TestNodesKnowNothingOfOneAnother(t *testing.T) {
	var s spread = 7
	r := rules(3, 1, 2, 10)
	for range 150 {
		first, second := node(t, 4, r), node(t, 4, r)
		one, two := plainNode(4, r), plainNode(4, r)
		acts := drawnActs(&s, 4, 60)
		for i, a := range acts {
			b := acts[len(acts)-1-i]
			if got, want := does(first, a), one.does(a); got != want {
				t.Fatalf("%v: %v, and not %v", a, got, want)
			}
			if got, want := does(second, b), two.does(b); got != want {
				t.Fatalf("%v: %v, and not %v", b, got, want)
			}
		}
	}
}

// P16.1: what becomes of rules behind New is nothing to the node.
func TestRulesAreKnownAsTheyWere(t *testing.T) {
	r := rules(2, 1, 2, 0)
	f := node(t, 3, r)
	r.Timeout, r.Ignore, r.Need, r.Drift = 9, 9, 1, 10
	heard(t, f, 1000, word(1, 0, 0, 1000), elect.Moved, 1)
	untold(t, f, 5, api.ErrUnsync)
	heard(t, f, 2000, word(1, 0, 1, 2010), elect.Took, 2)
	tells(t, f, 3000, 3005, 1)
	f.Beat(3000)
	says(t, f, 3001, word(3, 0, 1, 3001))
	heard(t, f, 3002, word(1, 0, 2, 3000), elect.Refused, 0)
	f.Beat(3003)
	heard(t, f, 3002, word(1, 0, 2, 3000), elect.Moved, 1)
}
