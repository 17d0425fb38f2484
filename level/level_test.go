package level

import (
	"math"
	"testing"

	"angelus/api"
	"angelus/frame"
)

const (
	least    = math.MinInt
	greatest = math.MaxInt
)

// spread tells numbers that look as if drawn, the same ones every time.
type spread uint64

func (s *spread) next() uint64 {
	*s = *s*6364136223846793005 + 1442695040888963407
	return uint64(*s >> 11)
}

// between is one of the numbers from low to high, both meant.
func (s *spread) between(low, high int) int {
	return low + int(s.next()%uint64(high-low+1))
}

// never are numbers that are neither a node's nor a level.
func never() []int {
	return []int{least, least + 1, least + 9, -1 << 32, -1<<32 + 3, -256, -253, -64, -63, -2, -1,
		64, 65, 66, 127, 128, 255, 256, 259, 319, 65536, 65539, 1 << 32, 1<<32 + 3, greatest - 1, greatest}
}

// act is a call that may change a node: a word that is heard, or Lose.
type act struct {
	lose bool
	word frame.Find
}

// heard is an act: a word comes.
func heard(from, level int) act {
	return act{word: frame.Find{From: from, Level: level}}
}

// answer is what an act answered, and what the node told of itself then.
type answer struct {
	is     bool
	level  int
	parent int
	told   frame.Find
	tells  bool
}

// does is what a node answers to an act.
func does(l *Level, a act) answer {
	var r answer
	if a.lose {
		l.Lose()
	} else {
		r.is = l.Hear(a.word)
	}
	r.level, r.parent = l.Level(), l.Parent()
	r.told, r.tells = l.Tell(false)
	return r
}

// plain is a node that keeps its parent's last word alone: its level and its parent are read off that.
type plain struct {
	me  int
	has bool
	by  frame.Find
}

// can: whether the rules let a word be one of another node.
func (p *plain) can(f frame.Find) bool {
	return f.From >= 0 && f.From <= 63 && f.Level >= 0 && f.Level <= 63 && f.From != p.me
}

// hear is what the document's rules say of a word; whether it changes anything.
func (p *plain) hear(f frame.Find) bool {
	if !p.can(f) {
		return false
	}
	if p.has && p.by.From == f.From {
		was := p.by
		p.has, p.by = f.Level+1 <= 63, f
		return !p.has || was != f
	}
	if f.Level+1 > 63 || p.has && p.by.Level <= f.Level {
		return false
	}
	p.has, p.by = true, f
	return true
}

// does is what the document's rules answer to an act.
func (p *plain) does(a act) answer {
	r := answer{level: -1, parent: -1}
	if a.lose {
		p.has = false
	} else {
		r.is = p.hear(a.word)
	}
	if p.has {
		r.level, r.parent = p.by.Level+1, p.by.From
		r.told, r.tells = frame.Find{From: p.me, Level: p.by.Level + 1}, true
	}
	return r
}

// node is a new one.
func node(t testing.TB, me int) *Level {
	t.Helper()
	l, code := New(me)
	if l == nil || code != api.OK {
		t.Fatalf("%d: %v, %d", me, l, code)
	}
	return l
}

// stands fails, unless a node has a level, and a parent.
func stands(t testing.TB, l *Level, level, parent int) {
	t.Helper()
	if l.Level() != level || l.Parent() != parent {
		t.Fatalf("level %d, parent %d; and not %d, %d", l.Level(), l.Parent(), level, parent)
	}
}

// hears fails, unless a word is answered so, and the node has that level, and that parent, behind it.
func hears(t testing.TB, l *Level, f frame.Find, is bool, level, parent int) {
	t.Helper()
	if got := l.Hear(f); got != is || l.Level() != level || l.Parent() != parent {
		t.Fatalf("%v: %v, level %d, parent %d; and not %v, %d, %d", f, got, l.Level(), l.Parent(), is, level, parent)
	}
}

// nodeAt is one that has a level by a parent; of level -1: a new one.
func nodeAt(t testing.TB, me, level, parent int) *Level {
	t.Helper()
	l := node(t, me)
	if level != -1 {
		hears(t, l, frame.Find{From: parent, Level: level - 1}, true, level, parent)
	}
	return l
}

// says fails, unless a node tells that word.
func says(t testing.TB, l *Level, itself bool, want frame.Find) {
	t.Helper()
	if f, ok := l.Tell(itself); !ok || f != want {
		t.Fatalf("%v, %v; and not %v", f, ok, want)
	}
}

// silent fails, unless a node that doesn't know the time itself tells nothing.
func silent(t testing.TB, l *Level) {
	t.Helper()
	if f, ok := l.Tell(false); ok || f != (frame.Find{}) {
		t.Fatalf("%v, %v; and not nothing", f, ok)
	}
}

// P17.1: New.
func TestNodesThatCanBe(t *testing.T) {
	for me := range 64 {
		l, code := New(me)
		if l == nil || code != api.OK {
			t.Fatalf("%d: %v, %d", me, l, code)
		}
	}
	for _, me := range never() {
		if l, code := New(me); l != nil || code != api.ErrArg {
			t.Errorf("%d: %v, %d", me, l, code)
		}
	}
}

// P17.1: a new node has nothing, and tells nothing, but what it knows itself.
func TestANewNode(t *testing.T) {
	for me := range 64 {
		l := node(t, me)
		stands(t, l, -1, -1)
		silent(t, l)
		says(t, l, true, frame.Find{From: me, Level: 0})
		stands(t, l, -1, -1)
		silent(t, l)
	}
}

// P17.1: the chapter's example.
func TestTheChaptersExample(t *testing.T) {
	l := node(t, 9)
	hears(t, l, frame.Find{From: 3, Level: 1}, true, 2, 3)
	hears(t, l, frame.Find{From: 4, Level: 0}, true, 1, 4)
}

// P17.1: words that can't be are not heard, whatever the node has, its parent's among them.
func TestWordsThatCantBe(t *testing.T) {
	for level := -1; level <= 63; level++ {
		if level == 0 {
			continue
		}
		parent := 3
		if level == -1 {
			parent = -1
		}
		l := nodeAt(t, 9, level, parent)
		for _, odd := range never() {
			for fair := range 64 {
				hears(t, l, frame.Find{From: odd, Level: fair}, false, level, parent)
				hears(t, l, frame.Find{From: fair, Level: odd}, false, level, parent)
			}
			for _, other := range never() {
				hears(t, l, frame.Find{From: odd, Level: other}, false, level, parent)
			}
		}
	}
}

// P17.1: the node isn't heard by itself.
func TestOwnWords(t *testing.T) {
	for me := range 64 {
		for level := 1; level <= 63; level++ {
			parent := (me + 1) % 64
			l := nodeAt(t, me, level, parent)
			for told := -1; told <= 64; told++ {
				hears(t, l, frame.Find{From: me, Level: told}, false, level, parent)
			}
		}
		l := node(t, me)
		for told := -1; told <= 64; told++ {
			hears(t, l, frame.Find{From: me, Level: told}, false, -1, -1)
			silent(t, l)
		}
	}
}

// P17.1: a node without a level goes by the first that it hears of, unless that one is too far.
func TestOfANodeWithoutALevel(t *testing.T) {
	for me := range 64 {
		for from := range 64 {
			if from == me {
				continue
			}
			for told := 0; told <= 62; told++ {
				hears(t, node(t, me), frame.Find{From: from, Level: told}, true, told+1, from)
			}
			hears(t, node(t, me), frame.Find{From: from, Level: 63}, false, -1, -1)
		}
	}
}

// P17.1: of another node than the parent a lesser level is taken alone.
func TestWordsOfOthers(t *testing.T) {
	for level := 1; level <= 63; level++ {
		for now := 1; now <= 64; now++ {
			l := nodeAt(t, 9, level, 3)
			f := frame.Find{From: 4, Level: now - 1}
			if now < level {
				hears(t, l, f, true, now, 4)
			} else {
				hears(t, l, f, false, level, 3)
			}
		}
	}
}

// P17.1: what others tell is held against the level by any number of a node, 0 and 63 among them.
func TestNumbersDontMatterAmongOthers(t *testing.T) {
	for parent := range 64 {
		for other := range 64 {
			if parent == 31 || other == 31 || other == parent {
				continue
			}
			l := nodeAt(t, 31, 7, parent)
			hears(t, l, frame.Find{From: other, Level: 7}, false, 7, parent)
			hears(t, l, frame.Find{From: other, Level: 6}, false, 7, parent)
			hears(t, l, frame.Find{From: other, Level: 5}, true, 6, other)
			hears(t, l, frame.Find{From: parent, Level: 5}, false, 6, other)
			hears(t, l, frame.Find{From: parent, Level: 4}, true, 5, parent)
		}
	}
}

// P17.1: the parent's word holds, be it less, or more; beyond MaxHops all is lost.
func TestWordsOfTheParent(t *testing.T) {
	for level := 1; level <= 63; level++ {
		for now := 1; now <= 63; now++ {
			l := nodeAt(t, 9, level, 3)
			hears(t, l, frame.Find{From: 3, Level: now - 1}, now != level, now, 3)
			says(t, l, false, frame.Find{From: 9, Level: now})
		}
		l := nodeAt(t, 9, level, 3)
		hears(t, l, frame.Find{From: 3, Level: 63}, true, -1, -1)
		silent(t, l)
		hears(t, l, frame.Find{From: 3, Level: 63}, false, -1, -1)
	}
}

// P17.1: a parent that was left is one of the others.
func TestAParentThatWasLeft(t *testing.T) {
	l := nodeAt(t, 9, 5, 3)
	hears(t, l, frame.Find{From: 4, Level: 3}, true, 4, 4)
	hears(t, l, frame.Find{From: 3, Level: 63}, false, 4, 4)
	hears(t, l, frame.Find{From: 3, Level: 9}, false, 4, 4)
	hears(t, l, frame.Find{From: 3, Level: 3}, false, 4, 4)
	hears(t, l, frame.Find{From: 4, Level: 62}, true, 63, 4)
	hears(t, l, frame.Find{From: 3, Level: 61}, true, 62, 3)
	hears(t, l, frame.Find{From: 4, Level: 63}, false, 62, 3)
}

// P17.1: of the same level the parent changes by nobody's word, but the level by the parent's, and then others are nearer.
func TestOthersAreNearerBehindTheParentsWord(t *testing.T) {
	l := nodeAt(t, 9, 5, 3)
	hears(t, l, frame.Find{From: 4, Level: 4}, false, 5, 3)
	hears(t, l, frame.Find{From: 3, Level: 5}, true, 6, 3)
	hears(t, l, frame.Find{From: 4, Level: 4}, true, 5, 4)
}

// P17.1: Lose, and what is heard behind it.
func TestLose(t *testing.T) {
	l := node(t, 9)
	l.Lose()
	stands(t, l, -1, -1)
	silent(t, l)
	for level := 1; level <= 63; level++ {
		for told := 0; told <= 63; told++ {
			for _, from := range []int{3, 4} {
				l := nodeAt(t, 9, level, 3)
				l.Lose()
				stands(t, l, -1, -1)
				silent(t, l)
				says(t, l, true, frame.Find{From: 9, Level: 0})
				l.Lose()
				stands(t, l, -1, -1)
				hears(t, l, frame.Find{From: -1, Level: told}, false, -1, -1)
				if told == 63 {
					hears(t, l, frame.Find{From: from, Level: told}, false, -1, -1)
				} else {
					hears(t, l, frame.Find{From: from, Level: told}, true, told+1, from)
				}
			}
		}
	}
}

// P17.1: behind what was lost by the parent's word any node is as good as any other.
func TestWhatIsHeardBehindALoss(t *testing.T) {
	for _, from := range []int{3, 4} {
		for told := 0; told <= 62; told++ {
			l := nodeAt(t, 9, 2, 3)
			hears(t, l, frame.Find{From: 3, Level: 63}, true, -1, -1)
			hears(t, l, frame.Find{From: from, Level: told}, true, told+1, from)
		}
	}
}

// P17.1: Tell.
func TestTell(t *testing.T) {
	for me := range 64 {
		for level := 1; level <= 63; level++ {
			parent := (me + 63) % 64
			l := nodeAt(t, me, level, parent)
			says(t, l, true, frame.Find{From: me, Level: 0})
			says(t, l, false, frame.Find{From: me, Level: level})
			says(t, l, true, frame.Find{From: me, Level: 0})
			stands(t, l, level, parent)
		}
	}
}

// P17.1: what a node tells can be, and comes from itself.
func TestWhatIsToldCanBe(t *testing.T) {
	for me := range 64 {
		for told := 0; told <= 62; told++ {
			l := nodeAt(t, me, told+1, (me+7)%64)
			for _, itself := range []bool{true, false} {
				f, ok := l.Tell(itself)
				if !ok || f.Sender() != me || !frame.Good(f) {
					t.Fatalf("%v, %v", f, ok)
				}
			}
		}
	}
}

// P17.1: asking changes nothing.
func TestAskingChangesNothing(t *testing.T) {
	var s spread = 3
	for range 2000 {
		asked, quiet := node(t, 9), node(t, 9)
		for range s.between(1, 20) {
			f := frame.Find{From: s.between(7, 11), Level: s.between(0, 4)}
			is := quiet.Hear(f)
			if got := asked.Hear(f); got != is {
				t.Fatalf("%v: %v, and not %v", f, got, is)
			}
			for range s.between(0, 3) {
				asked.Level()
				asked.Parent()
				asked.Tell(true)
				asked.Tell(false)
			}
		}
		stands(t, asked, quiet.Level(), quiet.Parent())
	}
}

// P17.1: a nil node.
func TestANilNode(t *testing.T) {
	var l *Level
	stands(t, l, -1, -1)
	for _, itself := range []bool{true, false} {
		if f, ok := l.Tell(itself); ok || f != (frame.Find{}) {
			t.Errorf("%v: %v, %v", itself, f, ok)
		}
	}
	for from := -1; from <= 64; from++ {
		for told := -1; told <= 64; told++ {
			hears(t, l, frame.Find{From: from, Level: told}, false, -1, -1)
		}
	}
	l.Lose()
	stands(t, l, -1, -1)
	silent(t, l)
}

// watch is what is asked of a node in any order of calls, from what was told to it alone.
type watch struct {
	me   int
	told [64]int // what each node told last
	was  answer
}

// looks fails, unless P17.2 holds behind an act.
func (w *watch) looks(t testing.TB, a act, now answer) {
	t.Helper()
	word := !a.lose && (&plain{me: w.me}).can(a.word)
	if word {
		w.told[a.word.From] = a.word.Level
		if now.level > a.word.Level+1 {
			t.Fatalf("node %d, behind %v: level %d", w.me, a.word, now.level)
		}
	}
	if (now.level == -1) != (now.parent == -1) || now.level == 0 || now.level < -1 || now.level > 63 {
		t.Fatalf("node %d, behind %v: level %d, parent %d", w.me, a, now.level, now.parent)
	}
	if now.level != -1 && now.level != w.told[now.parent]+1 {
		t.Fatalf("node %d, behind %v: level %d, and parent %d told %d", w.me, a, now.level, now.parent, w.told[now.parent])
	}
	rose := w.was.level != -1 && now.level > w.was.level
	gone := w.was.level != -1 && now.level == -1
	parents := word && a.word.From == w.was.parent
	if rose && !parents || gone && !parents && !a.lose {
		t.Fatalf("node %d, behind %v: level %d of %d, by another one than %d", w.me, a, now.level, w.was.level, w.was.parent)
	}
	if now.is != (!a.lose && (now.level != w.was.level || now.parent != w.was.parent)) {
		t.Fatalf("node %d, behind %v: %v; %v, and it was %v", w.me, a, now.is, now, w.was)
	}
	w.was = now
}

// watched fails, unless acts in a row are answered as the rules say, and P17.2 holds behind each.
func watched(t testing.TB, me int, acts ...act) {
	t.Helper()
	l, p := node(t, me), &plain{me: me}
	w := &watch{me: me, was: answer{level: -1, parent: -1}}
	for i, a := range acts {
		got := does(l, a)
		if want := p.does(a); got != want {
			t.Fatalf("node %d, act %d of %v: %v, and not %v", me, i, acts, got, want)
		}
		w.looks(t, a, got)
	}
}

// P17.1, P17.2: every word of every node, to nodes with every level.
func TestEveryWord(t *testing.T) {
	for _, me := range []int{0, 1, 31, 62, 63} {
		for _, parent := range []int{(me + 1) % 64, (me + 40) % 64} {
			for level := 0; level <= 63; level++ {
				for from := -1; from <= 64; from++ {
					for told := -1; told <= 64; told++ {
						first := act{lose: true}
						if level > 0 {
							first = heard(parent, level-1)
						}
						watched(t, me, first, heard(from, told))
					}
				}
			}
		}
	}
}

// P17.1, P17.2: all orders of five of a few acts: two other nodes, near and far, the node itself, a word that can't be, and Lose.
func TestEveryOrderOfAFewActs(t *testing.T) {
	acts := []act{heard(1, 0), heard(1, 1), heard(1, 62), heard(1, 63), heard(3, 0), heard(3, 1), heard(3, 61), heard(3, 62), heard(3, 63),
		heard(2, 0), heard(-1, 0), {lose: true}}
	row := make([]act, 5)
	for pattern := range 12 * 12 * 12 * 12 * 12 {
		rest := pattern
		for i := range row {
			row[i] = acts[rest%12]
			rest /= 12
		}
		watched(t, 2, row...)
	}
}

// drawnActs are some acts: of few nodes with few levels, of all with all, and such as can't be.
func drawnActs(s *spread, me int) []act {
	nodes, levels := 63, 63
	if s.between(0, 1) == 0 {
		nodes = s.between(1, 5)
	}
	if s.between(0, 1) == 0 {
		levels = s.between(1, 5)
	}
	acts := make([]act, s.between(1, 80))
	for i := range acts {
		a := heard(s.between(0, nodes), s.between(0, levels))
		switch s.between(0, 19) {
		case 0:
			a = act{lose: true}
		case 1:
			a.word.From = never()[s.between(0, len(never())-1)]
		case 2:
			a.word.Level = never()[s.between(0, len(never())-1)]
		case 3:
			a.word.From = me
		case 4, 5:
			a.word.Level = s.between(60, 63)
		}
		acts[i] = a
	}
	return acts
}

// P17.1, P17.2: drawn acts.
func TestDrawnActs(t *testing.T) {
	var s spread = 17
	for range 20000 {
		me := s.between(0, 63)
		if s.between(0, 1) == 0 {
			me = s.between(0, 5)
		}
		watched(t, me, drawnActs(&s, me)...)
	}
}

// pass lets each node of a row hear the one ahead of it; the first one may know the time itself.
func pass(t testing.TB, row []*Level, itself bool) {
	t.Helper()
	for i, l := range row[1:] {
		if f, ok := row[i].Tell(itself && i == 0); ok {
			l.Hear(f)
		}
	}
}

// P17.1, P17.2: in a row of nodes levels count on, whichever way their numbers go.
func TestLevelsCountOnInARow(t *testing.T) {
	for _, turned := range []bool{false, true} {
		row := make([]*Level, 64)
		for i := range row {
			row[i] = node(t, turnedTo(turned, i))
		}
		pass(t, row, true)
		stands(t, row[0], -1, -1)
		for i := 1; i < 64; i++ {
			stands(t, row[i], i, turnedTo(turned, i-1))
			says(t, row[i], false, frame.Find{From: turnedTo(turned, i), Level: i})
		}
		// Nobody is farther than MaxHops.
		f, _ := row[63].Tell(false)
		hears(t, row[0], f, false, -1, -1)
		f, _ = row[62].Tell(false)
		hears(t, row[0], f, true, 63, turnedTo(turned, 62))
	}
}

// turnedTo is the number of the node at a place of a row.
func turnedTo(turned bool, place int) int {
	if turned {
		return 63 - place
	}
	return place
}

// P17.1, P17.2: a row ends where MaxHops does; where its head goes farther off the last ones lose it, one by one.
func TestARowEnds(t *testing.T) {
	row := make([]*Level, 63)
	for i := range row {
		row[i] = node(t, i)
	}
	for head := 1; head <= 63; head++ {
		hears(t, row[0], frame.Find{From: 63, Level: head - 1}, true, head, 63)
		pass(t, row, false)
		fresh := make([]*Level, 63)
		for i := range fresh {
			fresh[i] = node(t, i)
		}
		fresh[0].Hear(frame.Find{From: 63, Level: head - 1})
		pass(t, fresh, false)
		for i := range row {
			level, parent := head+i, (i+63)%64
			if level > 63 {
				level, parent = -1, -1
			}
			stands(t, row[i], level, parent)
			stands(t, fresh[i], level, parent)
		}
	}
	hears(t, row[0], frame.Find{From: 63, Level: 63}, true, -1, -1)
}

// P17.1, P17.2: two that go by one another, with nobody else, count up till both have lost it.
func TestTwoThatGoByOneAnother(t *testing.T) {
	one, two := nodeAt(t, 1, 1, 0), node(t, 2)
	f, _ := one.Tell(false)
	hears(t, two, f, true, 2, 1)
	one.Lose()
	for level := 3; level <= 63; level += 2 {
		f, _ = two.Tell(false)
		hears(t, one, f, true, level, 2)
		f, _ = one.Tell(false)
		if level < 63 {
			hears(t, two, f, true, level+1, 1)
		} else {
			hears(t, two, f, true, -1, -1)
		}
	}
	silent(t, two)
	stands(t, one, 63, 2)
}

// P17.1, P17.2: in a network of fixed links levels come to how far the next one who knows is, by as few links as may be.
func TestLevelsOfANetwork(t *testing.T) {
	var s spread = 29
	for range 200 {
		size := s.between(2, 64)
		near := make([][]bool, size)
		for i := range near {
			near[i] = make([]bool, size)
		}
		for i := 1; i < size; i++ {
			for range s.between(1, 2) {
				j := s.between(max(0, i-3), i-1)
				near[i][j], near[j][i] = true, true
			}
		}
		knows := make([]bool, size)
		knows[s.between(0, size-1)] = true
		knows[s.between(0, size-1)] = true
		settled(t, near, knows)
	}
}

// settled fails, unless nodes that hear their neighbours again and again come to levels by which each is one more than its nearest one's.
func settled(t testing.TB, near [][]bool, knows []bool) {
	t.Helper()
	nodes := make([]*Level, len(near))
	far := make([]int, len(near))
	for i := range nodes {
		nodes[i], far[i] = node(t, i), 1000
		if knows[i] {
			far[i] = 0
		}
	}
	for range nodes {
		for i, l := range nodes {
			for j := range nodes {
				if !near[i][j] {
					continue
				}
				far[i] = min(far[i], far[j]+1)
				if f, ok := nodes[j].Tell(knows[j]); ok && !knows[i] {
					l.Hear(f)
				}
			}
		}
	}
	for i, l := range nodes {
		if knows[i] {
			stands(t, l, -1, -1)
		} else if by := l.Parent(); l.Level() != far[i] || !near[i][by] || far[by] != far[i]-1 {
			t.Fatalf("node %d, %d away: level %d, parent %d", i, far[i], l.Level(), by)
		}
	}
}

// P17.1: nodes know nothing of one another, those of one number among them.
func TestNodesKnowNothingOfOneAnother(t *testing.T) {
	var s spread = 7
	for range 500 {
		first, second := node(t, 4), node(t, 4)
		one, two := &plain{me: 4}, &plain{me: 4}
		acts := drawnActs(&s, 4)
		for i, a := range acts {
			b := acts[len(acts)-1-i]
			if got, want := does(first, a), one.does(a); got != want {
				t.Fatalf("%v: %v, and not %v", a, got, want)
			}
			if got, want := does(second, b), two.does(b); got != want {
				t.Fatalf("%v: %v, and not %v", b, got, want)
			}
		}
	}
}
