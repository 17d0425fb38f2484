package elect

import (
	"math"
	"slices"
	"testing"

	"angelus/api"
)

const (
	least    = math.MinInt
	greatest = math.MaxInt
	half     = 1 << 15
)

// spread tells numbers that look as if drawn, the same ones every time.
type spread uint64

func (s *spread) next() uint64 {
	*s = *s*6364136223846793005 + 1442695040888963407
	return uint64(*s >> 11)
}

// between is one of the numbers from low to high, both meant.
func (s *spread) between(low, high int) int {
	return low + int(s.next()%uint64(high-low+1))
}

// kind says which call an act is.
type kind int

const (
	boot kind = iota
	beat
	issue
	hear
)

// act is a call that may change a node.
type act struct {
	kind kind
	root int
	mark Mark
}

// word is an act: a word of a root is heard.
func word(root int, boot, seq uint16) act {
	return act{kind: hear, root: root, mark: Mark{Boot: boot, Seq: seq}}
}

// life is an act: a new life begins.
func life(number uint16) act {
	return act{kind: boot, mark: Mark{Boot: number}}
}

// beats are so many rounds that are over.
func beats(n int) []act {
	return slices.Repeat([]act{{kind: beat}}, n)
}

// answer is what an act answered, and what the node told of itself then.
type answer struct {
	verdict Verdict
	yes     bool
	issued  Mark
	root    int
	mine    bool
	mark    Mark
	said    bool
}

// does is what a node answers to an act.
func does(e *Elect, a act) answer {
	var r answer
	switch a.kind {
	case boot:
		e.Boot(a.mark.Boot)
	case beat:
		r.yes = e.Beat()
	case issue:
		r.issued, r.yes = e.Issue()
	case hear:
		r.verdict = e.Hear(a.root, a.mark)
	}
	r.root, r.mine = e.Root(), e.Mine()
	r.mark, r.said = e.Mark()
	return r
}

// plain is a node reckoned from the list of all that it took in its life, and from numbers of rounds since its beginning.
type plain struct {
	me      int
	rules   Rules
	boot    uint16
	words   int   // its own
	took    []act // in this life
	root    int
	rounds  int
	anew    int // the round at which its waiting began
	crowned int // the round at which it took itself for the root
}

// plainNode is a node in its first life.
func plainNode(me int, r Rules) *plain {
	return &plain{me: me, rules: r, root: -1}
}

// behind: whether a number of 16 bits comes behind another one.
func behind(a, b uint16) bool {
	way := (int(a) - int(b) + 2*half) % (2 * half)
	return way != 0 && way < half
}

// isNewer: whether a mark is newer than another one.
func isNewer(a, b Mark) bool {
	if a.Boot != b.Boot {
		return behind(a.Boot, b.Boot)
	}
	return behind(a.Seq, b.Seq)
}

// newest is the last mark that was taken of a root.
func (p *plain) newest(root int) (Mark, bool) {
	for _, a := range slices.Backward(p.took) {
		if a.root == root {
			return a.mark, true
		}
	}
	return Mark{}, false
}

// own is the mark of the node's last word.
func (p *plain) own() Mark {
	return Mark{Boot: p.boot, Seq: uint16(p.words % (2 * half))}
}

// takes is what becomes of a word.
func (p *plain) takes(a act) Verdict {
	known, some := p.newest(a.root)
	switch {
	case a.root < 0 || a.root >= p.me:
		return Refused
	case p.root == p.me && p.rounds-p.crowned < p.rules.Ignore:
		return Refused
	case p.root != -1 && p.root != p.me && a.root > p.root:
		return Refused
	case some && !isNewer(a.mark, known):
		return Refused
	case some && p.root == a.root && known.Boot == a.mark.Boot:
		return Took
	}
	return Moved
}

// beat is a round.
func (p *plain) beat() bool {
	p.rounds++
	if p.root == p.me || p.rounds-p.anew != p.rules.Timeout {
		return false
	}
	p.root, p.crowned = p.me, p.rounds
	return true
}

// does is what the document's rules answer to an act.
func (p *plain) does(a act) answer {
	var r answer
	switch a.kind {
	case boot:
		*p = plain{me: p.me, rules: p.rules, boot: a.mark.Boot, root: -1}
	case beat:
		r.yes = p.beat()
	case issue:
		if p.root == p.me {
			p.words++
			r.issued, r.yes = p.own(), true
		}
	case hear:
		r.verdict = p.takes(a)
		if r.verdict != Refused {
			p.took = append(p.took, a)
			p.root, p.anew = a.root, p.rounds
		}
	}
	r.root, r.mine = p.root, p.root == p.me
	if r.mine {
		r.mark, r.said = p.own(), p.words%(2*half) != 0
	} else {
		r.mark, r.said = p.newest(p.root)
	}
	return r
}

// node is a new one.
func node(t testing.TB, me int, r Rules) *Elect {
	t.Helper()
	e, code := New(me, r)
	if e == nil || code != api.OK {
		t.Fatalf("%d, %v: %v, %d", me, r, e, code)
	}
	return e
}

// nodeOf is one behind some acts, each of which answered as the rules say.
func nodeOf(t testing.TB, me int, r Rules, acts ...act) *Elect {
	t.Helper()
	e, p := node(t, me, r), plainNode(me, r)
	for i, a := range acts {
		if got, want := does(e, a), p.does(a); got != want {
			t.Fatalf("node %d, %v, act %d of %v: %v, and not %v", me, r, i, acts, got, want)
		}
	}
	return e
}

// heard fails, unless a word of a root has a verdict, and that root is the node's behind it, or else the one it had.
func heard(t *testing.T, e *Elect, a act, want Verdict) {
	t.Helper()
	root := e.Root()
	if want != Refused {
		root = a.root
	}
	if got := e.Hear(a.root, a.mark); got != want || e.Root() != root {
		t.Fatalf("word %v: %d, root %d; and not %d, root %d", a, got, e.Root(), want, root)
	}
}

// marked fails, unless a node's mark is one, and told to be one.
func marked(t *testing.T, e *Elect, want Mark, said bool) {
	t.Helper()
	if got, ok := e.Mark(); got != want || ok != said {
		t.Fatalf("%v, %v; and not %v, %v", got, ok, want, said)
	}
}

// issued fails, unless a node's next word has a mark.
func issued(t *testing.T, e *Elect, want Mark) {
	t.Helper()
	if got, ok := e.Issue(); got != want || !ok {
		t.Fatalf("%v, %v; and not %v", got, ok, want)
	}
	marked(t, e, want, want.Seq != 0)
}

// crowns fails, unless a node takes itself for the root at the last of so many rounds, and not ahead of it.
func crowns(t *testing.T, e *Elect, rounds int) {
	t.Helper()
	for i := 1; i <= rounds; i++ {
		root := e.Root()
		if got := e.Beat(); got != (i == rounds) || e.Mine() != got || !got && e.Root() != root {
			t.Fatalf("round %d of %d: %v, root %d", i, rounds, got, e.Root())
		}
	}
}

// P15.1
func TestVerdictsCountOn(t *testing.T) {
	if Refused != 0 || Took != 1 || Moved != 2 {
		t.Errorf("%d, %d, %d", Refused, Took, Moved)
	}
}

// P15.1: of both numbers at their bounds, beside them, and at the edges of their type.
func TestRulesThatCanBe(t *testing.T) {
	edges := []int{least, least + 1, -1 << 32, 1 - 1<<32, -1001, -1000, -2, -1, 0, 1, 2, 500, 999, 1000, 1001, 1002, 1<<16 + 1, 1<<32 + 1, 1<<32 + 1000, greatest - 1, greatest}
	for _, timeout := range edges {
		for _, ignore := range edges {
			r := Rules{Timeout: timeout, Ignore: ignore}
			want := timeout > 0 && timeout < 1001 && ignore > -1 && ignore < 1001
			if got := r.Good(); got != want {
				t.Errorf("%v: %v", r, got)
			}
			e, code := New(63, r)
			if want != (code == api.OK) || want != (e != nil) || !want && code != api.ErrArg {
				t.Errorf("%v: %v, %d", r, e, code)
			}
		}
	}
	if (Rules{}).Good() {
		t.Error("rules without a timeout can be")
	}
}

// P15.1
func TestNodesThatCanBe(t *testing.T) {
	for _, me := range []int{least, least + 5, -1 << 32, -64, -2, -1, 0, 1, 2, 31, 32, 62, 63, 64, 65, 1<<8 + 1, 1<<16 + 1, 1<<32 + 1, greatest} {
		for _, r := range []Rules{{}, {Timeout: 1}, {Timeout: 1000, Ignore: 1000}, {Timeout: 1001}, {Timeout: 1, Ignore: -1}, {Timeout: 1, Ignore: 1001}} {
			e, code := New(me, r)
			if me < 0 || me > 63 || !r.Good() {
				if e != nil || code != api.ErrArg {
					t.Errorf("%d, %v: %v, %d", me, r, e, code)
				}
			} else if e == nil || code != api.OK {
				t.Errorf("%d, %v: %v, %d", me, r, e, code)
			}
		}
	}
}

// P15.1
func TestANewNode(t *testing.T) {
	for me := range 64 {
		e := node(t, me, Rules{Timeout: 3, Ignore: 2})
		if e.Root() != -1 || e.Mine() {
			t.Errorf("%d: root %d, %v", me, e.Root(), e.Mine())
		}
		marked(t, e, Mark{}, false)
		if m, ok := e.Issue(); m != (Mark{}) || ok {
			t.Errorf("%d: %v, %v", me, m, ok)
		}
		marked(t, e, Mark{}, false)
		crowns(t, e, 3)
		if e.Root() != me {
			t.Errorf("%d: root %d", me, e.Root())
		}
		issued(t, e, Mark{Seq: 1})
	}
}

// P15.1: the chapter's examples.
func TestTheChaptersExamples(t *testing.T) {
	e := node(t, 5, Rules{Timeout: 2})
	heard(t, e, word(7, 0, 1), Refused)
	heard(t, e, word(3, 0, 1), Moved)
	if e.Beat() || !e.Beat() || !e.Mine() || e.Root() != 5 {
		t.Errorf("root %d", e.Root())
	}
}

// P15.1: of roots at the edges, by each node: one that has no root, and one that is the root itself.
func TestOfWhichRootsIsHeard(t *testing.T) {
	for me := range 64 {
		for _, root := range []int{least, least + me, -1 << 32, -1<<32 + 1, -64, -2, -1, 0, 1, me - 1, me, me + 1, 62, 63, 64, 65, 127, 128, 256, 1 << 16, 1 << 32, 1<<32 + me - 1, greatest - 1, greatest} {
			want := Refused
			if root >= 0 && root < me {
				want = Moved
			}
			heard(t, node(t, me, Rules{Timeout: 1}), word(root, 0, 1), want)
			heard(t, nodeOf(t, me, Rules{Timeout: 1}, beats(1)...), word(root, 0, 1), want)
		}
	}
}

// P15.1: of each root by a node that has none, and by one that has another one, above the word's, the same, or below it.
func TestOnlyLowerRootsAreHeard(t *testing.T) {
	for root := range 66 {
		want := Moved
		if root > 62 {
			want = Refused
		}
		heard(t, node(t, 63, Rules{Timeout: 9, Ignore: 9}), word(root, 7, 7), want)
	}
	for had := range 63 {
		for root := range 66 {
			e := nodeOf(t, 63, Rules{Timeout: 9, Ignore: 9}, word(had, 7, 7))
			switch {
			case root < had:
				heard(t, e, word(root, 7, 8), Moved)
				marked(t, e, Mark{Boot: 7, Seq: 8}, true)
			case root == had:
				heard(t, e, word(root, 7, 8), Took)
				marked(t, e, Mark{Boot: 7, Seq: 8}, true)
			default:
				heard(t, e, word(root, 7, 8), Refused)
				marked(t, e, Mark{Boot: 7, Seq: 7}, true)
			}
		}
	}
}

// P15.1: in each round in which no other one is heard, and behind them; of an Ignore of 0 at once.
func TestARootHearsNoOtherForSomeRounds(t *testing.T) {
	for _, ignore := range []int{0, 1, 2, 3, 10, 255, 256, 257, 999, 1000} {
		e := node(t, 40, Rules{Timeout: 2, Ignore: ignore})
		for try := range 3 {
			crowns(t, e, 2)
			for range ignore {
				for _, root := range []int{0, 1, 39} {
					heard(t, e, word(root, 9, 9), Refused)
				}
				if e.Beat() || !e.Mine() {
					t.Fatalf("Ignore %d: root %d", ignore, e.Root())
				}
			}
			heard(t, e, word(20, uint16(try), 5), Moved)
		}
	}
}

// P15.1: the rounds go down to 0, and not below.
func TestARootThatHeardNobodyForLongHearsOthers(t *testing.T) {
	for _, ignore := range []int{0, 1, 3, 1000} {
		for _, more := range []int{0, 1, 2, 3, 100, 1000, 1001, 70000} {
			e := node(t, 40, Rules{Timeout: 2, Ignore: ignore})
			crowns(t, e, 2)
			for i := range ignore + more {
				if e.Beat() || !e.Mine() || e.Root() != 40 {
					t.Fatalf("Ignore %d, round %d: root %d", ignore, i, e.Root())
				}
			}
			heard(t, e, word(39, 0, 0), Moved)
			// The next time it hears no other one for as long as at first.
			crowns(t, e, 2)
			for range ignore {
				heard(t, e, word(39, 0, 1), Refused)
				e.Beat()
			}
			heard(t, e, word(39, 0, 1), Moved)
		}
	}
}

// P15.1: rounds in which it goes by another one are not told among those in which it hears none.
func TestOnlyARootIgnores(t *testing.T) {
	e := node(t, 5, Rules{Timeout: 3, Ignore: 3})
	heard(t, e, word(3, 0, 1), Moved)
	heard(t, e, word(2, 0, 1), Moved)
	e.Beat()
	heard(t, e, word(1, 0, 1), Moved)
	e.Boot(1)
	heard(t, e, word(4, 0, 1), Moved)
	crowns(t, e, 3)
	heard(t, e, word(0, 0, 1), Refused)
	// A new life ends that, too.
	e.Boot(2)
	heard(t, e, word(4, 0, 1), Moved)
	heard(t, e, word(0, 0, 1), Moved)
}

// ways are by how much a number may be ahead of the one that is known, and whether it is newer then.
var ways = []struct {
	way   int
	newer bool
}{
	{0, false}, {1, true}, {2, true}, {255, true}, {256, true}, {257, true}, {half - 2, true}, {half - 1, true}, {half, false},
	{half + 1, false}, {half + 2, false}, {2*half - 256, false}, {2*half - 2, false}, {2*half - 1, false},
}

// starts are known numbers, from which the ways go past the last number, and don't.
var starts = []uint16{0, 1, 2, 77, half - 1, half, half + 1, 2*half - 2, 2*half - 1}

// P15.1: of the same boot: numbers that are newer, the same, older, half the way round apart, and past the last one.
func TestNewerNumbersAreTaken(t *testing.T) {
	for _, b := range starts {
		for _, known := range starts {
			for _, w := range ways {
				e := nodeOf(t, 5, Rules{Timeout: 9}, word(3, b, known))
				heardOr(t, e, word(3, b, known+uint16(w.way)), w.newer, Took)
			}
		}
	}
}

// P15.1: of other boots, whatever the numbers are.
func TestNewerBootsAreTaken(t *testing.T) {
	for _, b := range starts {
		for _, w := range ways[1:] {
			for _, known := range []uint16{0, 5, half, 2*half - 1} {
				for _, next := range []uint16{0, 4, 5, 6, half, half + 5, 2*half - 1} {
					e := nodeOf(t, 5, Rules{Timeout: 9}, word(3, b, known))
					heardOr(t, e, word(3, b+uint16(w.way), next), w.newer, Moved)
				}
			}
		}
	}
}

// heardOr fails, unless a word that is newer has a verdict, and its mark is told then, and one that isn't is refused, and the known mark is told.
func heardOr(t *testing.T, e *Elect, a act, newer bool, verdict Verdict) {
	t.Helper()
	want, _ := e.Mark()
	if !newer {
		verdict = Refused
	} else {
		want = a.mark
	}
	heard(t, e, a, verdict)
	marked(t, e, want, true)
}

// P15.1: of a root of which no mark is known any mark is taken, whatever is known of others.
func TestTheFirstMarkMayBeAny(t *testing.T) {
	for _, b := range starts {
		for _, seq := range starts {
			for _, acts := range [][]act{nil, {word(4, 2, 3)}, {word(4, b, seq)}, {word(4, b+1, seq)}, beats(2)} {
				e := nodeOf(t, 5, Rules{Timeout: 2}, acts...)
				heard(t, e, word(3, b, seq), Moved)
				marked(t, e, Mark{Boot: b, Seq: seq}, true)
				heard(t, e, word(3, b, seq), Refused)
				heard(t, e, word(3, b, seq-1), Refused)
				heard(t, e, word(3, b, seq+1), Took)
			}
		}
	}
}

// P15.1: numbers may go round as often as they want, by steps as great as may be.
func TestNumbersGoRound(t *testing.T) {
	e := node(t, 1, Rules{Timeout: 1})
	heard(t, e, word(0, 0, 0), Moved)
	for _, way := range []uint16{1, 255, 256, half - 1} {
		var m Mark
		m, _ = e.Mark()
		for range 2*2*half/int(way) + 3 {
			m.Seq += way
			heard(t, e, word(0, m.Boot, m.Seq), Took)
			m.Boot += way
			heard(t, e, word(0, m.Boot, m.Seq), Moved)
		}
		marked(t, e, m, true)
	}
}

// P15.1: Moved of another root, of none, of a first mark, and of another boot; else Took.
func TestMovedOrTook(t *testing.T) {
	e := node(t, 9, Rules{Timeout: 1})
	heard(t, e, word(8, 4, 4), Moved)
	heard(t, e, word(8, 4, 5), Took)
	heard(t, e, word(8, 5, 0), Moved)
	heard(t, e, word(8, 5, 1), Took)
	heard(t, e, word(2, 5, 2), Moved)
	heard(t, e, word(2, 5, 3), Took)
	crowns(t, e, 1)
	heard(t, e, word(2, 5, 4), Moved)
	heard(t, e, word(2, 5, 5), Took)
	crowns(t, e, 1)
	heard(t, e, word(8, 5, 2), Moved)
	heard(t, e, word(8, 5, 3), Took)
	heard(t, e, word(2, 6, 0), Moved)
	heard(t, e, word(2, 6, 1), Took)
	e.Boot(0)
	heard(t, e, word(2, 6, 2), Moved)
	heard(t, e, word(2, 6, 3), Took)
}

// P15.1: marks are kept while the node goes by another one, and while it is the root itself.
func TestMarksAreKept(t *testing.T) {
	e := node(t, 9, Rules{Timeout: 2, Ignore: 1})
	heard(t, e, word(8, 1, 8), Moved)
	heard(t, e, word(5, 2, 5), Moved)
	heard(t, e, word(3, 3, 3), Moved)
	crowns(t, e, 2)
	issued(t, e, Mark{Seq: 1})
	e.Beat()
	for range 2 {
		heard(t, e, word(8, 1, 8), Refused)
		heard(t, e, word(8, 1, 7), Refused)
		heard(t, e, word(8, 0, 9), Refused)
		heard(t, e, word(5, 2, 5), Refused)
		heard(t, e, word(5, 1, 6), Refused)
		heard(t, e, word(3, 3, 3), Refused)
	}
	heard(t, e, word(8, 1, 9), Moved)
	marked(t, e, Mark{Boot: 1, Seq: 9}, true)
	heard(t, e, word(5, 2, 5), Refused)
	heard(t, e, word(5, 2, 6), Moved)
	marked(t, e, Mark{Boot: 2, Seq: 6}, true)
	heard(t, e, word(3, 3, 3), Refused)
	heard(t, e, word(3, 4, 0), Moved)
	marked(t, e, Mark{Boot: 4}, true)
	crowns(t, e, 2)
	e.Beat()
	heard(t, e, word(8, 1, 9), Refused)
	heard(t, e, word(8, 1, 10), Moved)
}

// P15.1: of as many roots as there may be.
func TestMarksOfAllRootsAreKept(t *testing.T) {
	e := node(t, 63, Rules{Timeout: 1})
	for root := 62; root >= 0; root-- {
		heard(t, e, word(root, uint16(1000*root), uint16(2000*root)), Moved)
	}
	for root := range 63 {
		crowns(t, e, 1)
		heard(t, e, word(root, uint16(1000*root), uint16(2000*root)), Refused)
		heard(t, e, word(root, uint16(1000*root), uint16(2000*root+1)), Moved)
	}
}

// P15.1: one below Timeout, just Timeout, and behind it.
func TestARootIsGivenUp(t *testing.T) {
	for _, timeout := range []int{1, 2, 3, 10, 255, 256, 257, 999, 1000} {
		e := node(t, 9, Rules{Timeout: timeout})
		crowns(t, e, timeout)
		for range timeout + 1 {
			if e.Beat() || !e.Mine() {
				t.Fatalf("Timeout %d: root %d", timeout, e.Root())
			}
		}
		// What it waited is forgotten behind that.
		heard(t, e, word(7, 0, 1), Moved)
		crowns(t, e, timeout)
		heard(t, e, word(7, 0, 2), Moved)
		crowns(t, e, timeout)
	}
}

// P15.1: a word that is taken begins the waiting anew, one that is refused doesn't.
func TestWaitingBeginsAnew(t *testing.T) {
	for _, timeout := range []int{1, 2, 3, 7, 1000} {
		for _, waited := range []int{0, 1, 2, 5, 6, 257, 998, 999} {
			if waited >= timeout {
				break
			}
			acts := append([]act{word(7, 1, 1)}, beats(waited)...)
			for _, a := range []act{word(7, 1, 2), word(7, 2, 0), word(6, 0, 0), word(0, 1, 1)} {
				e := nodeOf(t, 9, Rules{Timeout: timeout, Ignore: 2}, acts...)
				if e.Hear(a.root, a.mark) == Refused {
					t.Fatalf("%v is refused", a)
				}
				crowns(t, e, timeout)
			}
			for _, a := range []act{word(7, 1, 1), word(7, 1, 0), word(7, 0, 2), word(8, 5, 5), word(9, 5, 5), word(-1, 5, 5)} {
				e := nodeOf(t, 9, Rules{Timeout: timeout, Ignore: 2}, acts...)
				heard(t, e, a, Refused)
				crowns(t, e, timeout-waited)
			}
		}
	}
}

// P15.1: a node that has no root waits, and what it waited till a first word is forgotten.
func TestAFirstWordBeginsTheWaitingAnew(t *testing.T) {
	for waited := range 5 {
		e := nodeOf(t, 9, Rules{Timeout: 5}, beats(waited)...)
		heard(t, e, word(9, 0, 0), Refused)
		heard(t, e, word(4, 0, 0), Moved)
		crowns(t, e, 5)
	}
}

// P15.1: a node that isn't the root issues nothing, and its numbers stay.
func TestOnlyARootIssues(t *testing.T) {
	e := node(t, 9, Rules{Timeout: 1})
	silent := func() {
		t.Helper()
		was, some := e.Mark()
		for range 3 {
			if m, ok := e.Issue(); m != (Mark{}) || ok {
				t.Fatalf("%v, %v", m, ok)
			}
		}
		marked(t, e, was, some)
	}
	silent()
	heard(t, e, word(3, 8, 8), Moved)
	silent()
	crowns(t, e, 1)
	marked(t, e, Mark{}, false)
	issued(t, e, Mark{Seq: 1})
	issued(t, e, Mark{Seq: 2})
	heard(t, e, word(3, 8, 9), Moved)
	silent()
	marked(t, e, Mark{Boot: 8, Seq: 9}, true)
	crowns(t, e, 1)
	marked(t, e, Mark{Seq: 2}, true)
	issued(t, e, Mark{Seq: 3})
}

// P15.1: numbers count on from 1, past the last one, and the mark of number 0 is none that was said.
func TestNumbersCountOn(t *testing.T) {
	for _, b := range []uint16{0, 1, 7, half, 2*half - 1} {
		e := nodeOf(t, 0, Rules{Timeout: 1, Ignore: 5}, append([]act{life(b)}, beats(1)...)...)
		marked(t, e, Mark{Boot: b}, false)
		for i := 1; i <= 2*2*half+2; i++ {
			issued(t, e, Mark{Boot: b, Seq: uint16(i)})
			if i%1000 == 0 && (e.Beat() || !e.Mine()) {
				t.Fatalf("root %d", e.Root())
			}
		}
	}
}

// P15.1: all is as in a new node, but for the boot, with which its own marks are told.
func TestANewLife(t *testing.T) {
	rules := Rules{Timeout: 3, Ignore: 2}
	pasts := map[string][]act{
		"new":         nil,
		"waiting":     beats(2),
		"with a root": {word(4, 1, 9), word(2, 1, 9), {kind: beat}, {kind: beat}},
		"the root":    append(beats(3), act{kind: issue}, act{kind: issue}),
		"the root that knows marks": slices.Concat([]act{word(4, 1, 9), word(2, 1, 9)}, beats(3),
			[]act{{kind: issue}, {kind: beat}}),
		"of other lives": slices.Concat([]act{life(3)}, beats(3), []act{{kind: issue}, life(2*half - 1), word(2, 1, 9)}, beats(1)),
	}
	for name, past := range pasts {
		for _, b := range []uint16{0, 1, 2, 3, half, 2*half - 1} {
			fresh := func() *Elect {
				e := nodeOf(t, 6, rules, past...)
				e.Boot(b)
				return e
			}
			e := fresh()
			if e.Root() != -1 || e.Mine() {
				t.Errorf("%s: root %d", name, e.Root())
			}
			marked(t, e, Mark{}, false)
			if m, ok := e.Issue(); m != (Mark{}) || ok {
				t.Errorf("%s: %v, %v", name, m, ok)
			}
			crowns(t, e, 3)
			marked(t, e, Mark{Boot: b}, false)
			heard(t, e, word(4, 7, 7), Refused)
			issued(t, e, Mark{Boot: b, Seq: 1})
			e.Beat()
			heard(t, e, word(4, 7, 7), Refused)
			e.Beat()
			// What was refused as known is taken again.
			heard(t, e, word(4, 1, 9), Moved)
			heard(t, e, word(2, 0, 3), Moved)
			for _, a := range []act{word(5, 0, 0), word(4, 1, 9), word(4, 0, 8), word(2, 1, 9), word(2, 1, 1)} {
				e = fresh()
				heard(t, e, a, Moved)
				marked(t, e, a.mark, true)
				crowns(t, e, 3)
				issued(t, e, Mark{Boot: b, Seq: 1})
			}
		}
	}
}

// P15.1
func TestANilNode(t *testing.T) {
	var e *Elect
	e.Boot(0)
	e.Boot(9)
	if e.Root() != -1 || e.Mine() || e.Beat() {
		t.Errorf("root %d, %v", e.Root(), e.Mine())
	}
	marked(t, e, Mark{}, false)
	if m, ok := e.Issue(); m != (Mark{}) || ok {
		t.Errorf("%v, %v", m, ok)
	}
	for _, root := range []int{least, -1, 0, 1, 63, greatest} {
		if v := e.Hear(root, Mark{Boot: 1, Seq: 1}); v != Refused {
			t.Errorf("%d: %d", root, v)
		}
	}
}

// telling is what a node tells of itself, which is the same as often as it is asked.
func telling(t *testing.T, e *Elect) answer {
	t.Helper()
	var r answer
	r.root, r.mine = e.Root(), e.Mine()
	r.mark, r.said = e.Mark()
	for range 3 {
		m, ok := e.Mark()
		if e.Mine() != r.mine || e.Root() != r.root || m != r.mark || ok != r.said {
			t.Fatalf("%v, and then other things", r)
		}
	}
	return r
}

// sounding is a row of acts that brings to light all that a node knows.
func sounding(me int) []act {
	acts := []act{{kind: issue}}
	for root := min(me, 3); root >= 0; root-- {
		for _, m := range marksAround {
			acts = append(acts, act{kind: hear, root: root, mark: m}, act{kind: beat})
		}
	}
	return slices.Concat(acts, beats(4), []act{{kind: issue}}, acts, beats(4), acts)
}

// marksAround are marks of which some are newer than others, some past the last number, some half the way round apart.
var marksAround = []Mark{{0, 0}, {0, 1}, {0, half}, {0, 2*half - 1}, {1, 0}, {1, 1}, {half, 1}, {2*half - 1, 0}, {2*half - 1, 2*half - 1}}

// P15.1: a word that is refused changes nothing, of all that the node tells at once or later on.
func TestARefusedWordChangesNothing(t *testing.T) {
	var s spread = 15
	for range 3000 {
		me := s.between(0, 4)
		rules := Rules{Timeout: s.between(1, 4), Ignore: s.between(0, 4)}
		acts := drawnActs(&s, me, s.between(0, 12))
		a := drawnWord(&s, me)
		e := nodeOf(t, me, rules, acts...)
		was := telling(t, e)
		if e.Hear(a.root, a.mark) != Refused {
			continue
		}
		if is := telling(t, e); is != was {
			t.Fatalf("%v, %v: %v became %v by %v", rules, acts, was, is, a)
		}
		other := nodeOf(t, me, rules, acts...)
		for i, b := range sounding(me) {
			if got, want := does(e, b), does(other, b); got != want {
				t.Fatalf("%v, %v: by %v the answer to act %d, %v, is %v, and not %v", rules, acts, a, i, b, got, want)
			}
		}
	}
}

// drawnWord is a word of a root that is seldom one that can't be.
func drawnWord(s *spread, me int) act {
	root := s.between(0, max(0, me-1))
	if s.between(0, 9) == 0 {
		root = []int{least, -1, me, me + 1, 63, 64, greatest}[s.between(0, 6)]
	}
	return act{kind: hear, root: root, mark: marksAround[s.between(0, len(marksAround)-1)]}
}

// drawnActs are so many acts.
func drawnActs(s *spread, me, n int) []act {
	var acts []act
	for range n {
		switch s.between(0, 19) {
		case 0:
			acts = append(acts, life(marksAround[s.between(0, len(marksAround)-1)].Boot))
		case 1, 2:
			acts = append(acts, act{kind: issue})
		case 3, 4, 5, 6, 7:
			acts = append(acts, act{kind: beat})
		default:
			acts = append(acts, drawnWord(s, me))
		}
	}
	return acts
}

// watch is what is asked of a node in any order of calls.
type watch struct {
	me   int
	took map[int][]Mark
}

// height is how high a root is; none is above all.
func height(root int) int {
	if root == -1 {
		return 64
	}
	return root
}

// sees fails, if a node's answer to an act breaks what holds in every order.
func (w *watch) sees(t *testing.T, was int, a act, r answer) {
	t.Helper()
	if r.root > w.me || r.root < -1 || r.mine != (r.root == w.me) {
		t.Fatalf("node %d has the root %d, %v", w.me, r.root, r.mine)
	}
	up := height(r.root) > height(was)
	if up && !(a.kind == boot && r.root == -1) && !(a.kind == beat && r.root == w.me && r.yes) {
		t.Fatalf("node %d: by %v the root %d became %d", w.me, a, was, r.root)
	}
	if a.kind == boot {
		w.took = map[int][]Mark{}
	}
	if a.kind != hear || r.verdict == Refused {
		return
	}
	if list := w.took[a.root]; len(list) > 0 && !isNewer(a.mark, list[len(list)-1]) {
		t.Fatalf("node %d: of %d, of which %v were taken, %v is taken", w.me, a.root, list, a.mark)
	}
	w.took[a.root] = append(w.took[a.root], a.mark)
}

// watched fails, unless a node answers to acts as the rules say, and nothing that holds in every order is broken.
func watched(t *testing.T, me int, rules Rules, acts []act) {
	t.Helper()
	e, p, w := node(t, me, rules), plainNode(me, rules), watch{me: me, took: map[int][]Mark{}}
	for i, a := range acts {
		was := e.Root()
		got, want := does(e, a), p.does(a)
		if got != want {
			t.Fatalf("node %d, %v, act %d of %v: %v, and not %v", me, rules, i, acts, got, want)
		}
		w.sees(t, was, a, got)
	}
}

// P15.1, P15.2: all orders of a few acts.
func TestEveryOrderOfAFewActs(t *testing.T) {
	acts := []act{{kind: beat}, {kind: issue}, life(1), word(1, 0, 0), word(1, 0, 1), word(0, 1, 2*half-1), word(0, 2, 0), word(2, 9, 9)}
	for _, rules := range []Rules{{Timeout: 1}, {Timeout: 1, Ignore: 1}, {Timeout: 2, Ignore: 1}} {
		for pattern := range 1 << (3 * 6) {
			row := make([]act, 0, 6)
			for rest := pattern; len(row) < 6; rest /= 8 {
				row = append(row, acts[rest%8])
			}
			watched(t, 2, rules, row)
		}
	}
}

// P15.1, P15.2: drawn acts of all nodes and rules, with marks all around the round, and such as follow one another.
func TestDrawnActs(t *testing.T) {
	var s spread = 51
	for range 6000 {
		me := s.between(0, 63)
		if s.between(0, 1) == 0 {
			me = s.between(0, 5)
		}
		watched(t, me, Rules{Timeout: s.between(1, 6), Ignore: s.between(0, 6)}, drawnActs(&s, me, s.between(1, 120)))
	}
	for range 300 {
		rules := Rules{Timeout: s.between(1, 1000), Ignore: s.between(0, 1000)}
		var acts []act
		var next Mark
		for range s.between(1, 30) {
			acts = append(acts, drawnActs(&s, 9, s.between(0, 5))...)
			acts = append(acts, beats(s.between(0, 1100))...)
			next.Seq += uint16(s.between(0, half-1))
			acts = append(acts, word(s.between(0, 8), next.Boot, next.Seq))
		}
		watched(t, 9, rules, acts)
	}
}

// P15.2: the root goes down from root to root, and up to the node itself by its timeout alone.
func TestTheRootGoesDown(t *testing.T) {
	e := node(t, 63, Rules{Timeout: 1000})
	for root := 62; root >= 0; root-- {
		heard(t, e, word(root, 0, 0), Moved)
		for other := root + 1; other < 64; other++ {
			heard(t, e, word(other, 1, 1), Refused)
		}
	}
	crowns(t, e, 1000)
}

// P15.1: nodes know nothing of one another.
func TestNodesKnowNothingOfOneAnother(t *testing.T) {
	var s spread = 7
	rules := Rules{Timeout: 3, Ignore: 1}
	for range 300 {
		first, second := node(t, 4, rules), node(t, 4, rules)
		one, two := plainNode(4, rules), plainNode(4, rules)
		acts := drawnActs(&s, 4, 60)
		for i, a := range acts {
			b := acts[len(acts)-1-i]
			if got, want := does(first, a), one.does(a); got != want {
				t.Fatalf("%v: %v, and not %v", a, got, want)
			}
			if got, want := does(second, b), two.does(b); got != want {
				t.Fatalf("%v: %v, and not %v", b, got, want)
			}
		}
	}
}

// P15.1: what becomes of rules behind New is nothing to the node.
func TestRulesAreKnownAsTheyWere(t *testing.T) {
	r := Rules{Timeout: 2, Ignore: 1}
	e := node(t, 3, r)
	r.Timeout, r.Ignore = 9, 9
	crowns(t, e, 2)
	heard(t, e, word(1, 0, 0), Refused)
	e.Beat()
	heard(t, e, word(1, 0, 0), Moved)
}
