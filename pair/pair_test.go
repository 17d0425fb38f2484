package pair

import (
	"math"
	"math/big"
	"testing"

	"angelus/api"
	"angelus/frame"
	"angelus/table"
)

const (
	least    = math.MinInt
	greatest = math.MaxInt
	top      = 1 << 50 // the greatest time
)

// spread tells numbers that look as if drawn, the same ones every time.
type spread uint64

func (s *spread) next() uint64 {
	*s = *s*6364136223846793005 + 1442695040888963407
	return uint64(*s >> 11)
}

// between is one of the numbers from low to high, both meant.
func (s *spread) between(low, high int) int {
	return low + int(s.next()%uint64(high-low+1))
}

// of is one of some numbers.
func (s *spread) of(numbers ...int) int {
	return numbers[s.between(0, len(numbers)-1)]
}

// never are numbers that are neither a node's nor hops.
func never() []int {
	return []int{least, least + 1, least + 4, -1 << 32, -1<<32 + 4, -256, -252, -64, -63, -2, -1,
		64, 65, 68, 127, 128, 255, 256, 260, 320, 65536, 65540, 1 << 32, 1<<32 + 4, greatest - 1, greatest}
}

// noTimes are numbers that are no times.
func noTimes() []int {
	return []int{least, least + 1, least + 1000, -top - 1, -top, -1 << 32, -1001, -1000, -2, -1,
		top + 1, top + 2, top + 1000, 1 << 51, 1<<51 + 1000, 1 << 62, greatest - 1, greatest}
}

// edges are numbers about those from which on, and up to which, times can be.
func edges() []int {
	return []int{least, least + 1, -top - 1, -top, -1, 0, 1, 2, 3, top/2 - 1, top / 2, top - 3, top - 2, top - 1, top, top + 1, greatest - 1, greatest}
}

// The kinds of calls that may change a node.
const (
	ask = iota
	hear
	beat
	boot
)

// act is a call that may change a node.
type act struct {
	what  int
	to    int
	reply frame.Reply
	local int
}

// asks, hears, beats and boots are acts.
func asks(to, local int) act               { return act{what: ask, to: to, local: local} }
func hears(reply frame.Reply, own int) act { return act{what: hear, reply: reply, local: own} }
func beats() act                           { return act{what: beat} }
func boots() act                           { return act{what: boot} }

// answer is what an act answered, and what the node told of itself then.
type answer struct {
	is    bool
	pulse frame.Pulse
	entry table.Entry
	waits bool
	rests int
}

// does is what a node answers to an act.
func does(p *Pair, a act) answer {
	var r answer
	switch a.what {
	case ask:
		r.pulse, r.is = p.Ask(a.to, a.local)
	case hear:
		r.entry, r.is = p.Hear(a.reply, a.local)
	case beat:
		r.is = p.Beat()
	case boot:
		p.Boot()
	}
	r.waits, r.rests = p.Waits(), p.Rests()
	return r
}

// halved is half of what some numbers are together, rounded down, reckoned with room for any.
func halved(numbers ...int) int {
	sum := new(big.Int)
	for _, n := range numbers {
		sum.Add(sum, big.NewInt(int64(n)))
	}
	low := new(big.Int)
	sum.DivMod(sum, big.NewInt(2), low)
	return int(sum.Int64())
}

// time: whether the rules let a number be a time.
func time(n int) bool {
	return n >= 0 && n <= 1125899906842624
}

// can: whether the rules let times be.
func can(t Times) bool {
	return time(t.Sent) && time(t.Got) && time(t.Back) && time(t.Came) && t.Sent <= t.Came
}

// The thirteen places at which a node may be, as they come one behind the other if nobody answers: at free ones it may ask.
const (
	free0 = iota
	first1
	second1
	rest1
	free1
	first2
	second2
	rest3of3
	rest2of3
	rest1of3
	free2
	first3
	second3
	places
)

// plain is a node that keeps its place, and whom it asked and when.
type plain struct {
	me    int
	place int
	to    int
	sent  int
}

func (p *plain) free() bool {
	return p.place == free0 || p.place == free1 || p.place == free2
}

func (p *plain) waits() bool {
	return p.place == first1 || p.place == second1 || p.place == first2 || p.place == second2 || p.place == first3 || p.place == second3
}

func (p *plain) rests() int {
	switch p.place {
	case rest3of3:
		return 3
	case rest2of3:
		return 2
	case rest1, rest1of3:
		return 1
	}
	return 0
}

func (p *plain) ask(to, local int) (frame.Pulse, bool) {
	if !p.free() || to == p.me || to < 0 || to > 63 || !time(local) {
		return frame.Pulse{}, false
	}
	p.place++
	p.to, p.sent = to, local
	return frame.Pulse{From: p.me, To: to, Sent: local}, true
}

func (p *plain) hear(r frame.Reply, local int) (table.Entry, bool) {
	if !p.waits() || r.To != p.me || r.From != p.to || r.Sent != p.sent {
		return table.Entry{}, false
	}
	if !can(Times{r.Sent, r.Got, r.Back, local}) || r.Hops < 0 || r.Hops > 62 {
		return table.Entry{}, false
	}
	p.place = free0
	return table.Entry{Local: local, Offset: halved(r.Got, -r.Sent, r.Back, -local), Hops: r.Hops + 1}, true
}

func (p *plain) beat() bool {
	if p.free() {
		return false
	}
	p.place = (p.place + 1) % places
	return p.place == 0
}

// does is what the document's rules answer to an act.
func (p *plain) does(a act) answer {
	var r answer
	switch a.what {
	case ask:
		r.pulse, r.is = p.ask(a.to, a.local)
	case hear:
		r.entry, r.is = p.hear(a.reply, a.local)
	case beat:
		r.is = p.beat()
	case boot:
		p.place = free0
	}
	r.waits, r.rests = p.waits(), p.rests()
	return r
}

// node is a new one.
func node(t testing.TB, me int) *Pair {
	t.Helper()
	p, code := New(me)
	if p == nil || code != api.OK {
		t.Fatalf("%d: %v, %d", me, p, code)
	}
	return p
}

// path are the acts by which a new node comes to a place: it asks node 4, at 1000, 1100 and so on, whenever it may.
func path(place int) []act {
	var acts []act
	for at := 0; at < place; at++ {
		if at == free0 || at == free1 || at == free2 {
			acts = append(acts, asks(4, 1000+100*at))
		} else {
			acts = append(acts, beats())
		}
	}
	return acts
}

// sentAt is when a node at a place that path leads to asked last.
func sentAt(place int) int {
	switch {
	case place > free2:
		return 1000 + 100*free2
	case place > free1:
		return 1000 + 100*free1
	}
	return 1000
}

// at is a node, and its plain one, at a place.
func at(t testing.TB, me, place int) (*Pair, *plain) {
	t.Helper()
	p, q := node(t, me), &plain{me: me}
	for _, a := range path(place) {
		follows(t, p, q, a)
	}
	if q.place != place {
		t.Fatalf("place %d, and not %d", q.place, place)
	}
	return p, q
}

// follows fails, unless an act is answered as the rules say.
func follows(t testing.TB, p *Pair, q *plain, a act) answer {
	t.Helper()
	was := *q
	got, want := does(p, a), q.does(a)
	if got != want {
		t.Fatalf("%v, %v: %v, and not %v", was, a, got, want)
	}
	return got
}

// watched fails, unless acts in a row are answered as the rules say.
func watched(t testing.TB, me int, acts ...act) {
	t.Helper()
	p, q := node(t, me), &plain{me: me}
	for i, a := range acts {
		if got, want := does(p, a), q.does(a); got != want {
			t.Fatalf("node %d, act %d of %v: %v, and not %v", me, i, acts, got, want)
		}
	}
}

// stands fails, unless a node waits, or doesn't, and rests for so many rounds.
func stands(t testing.TB, p *Pair, waits bool, rests int) {
	t.Helper()
	if p.Waits() != waits || p.Rests() != rests {
		t.Fatalf("waits %v, rests %d; and not %v, %d", p.Waits(), p.Rests(), waits, rests)
	}
}

// sends fails, unless a node that is asked to asks somebody.
func sends(t testing.TB, p *Pair, to, local int, want frame.Pulse) {
	t.Helper()
	if f, ok := p.Ask(to, local); !ok || f != want || !p.Waits() || p.Rests() != 0 {
		t.Fatalf("%d, %d: %v, %v, and not %v; waits %v, rests %d", to, local, f, ok, want, p.Waits(), p.Rests())
	}
}

// sendsNot fails, if a node asks, or is otherwise then.
func sendsNot(t testing.TB, p *Pair, to, local int) {
	t.Helper()
	was := p.Waits()
	rests := p.Rests()
	if f, ok := p.Ask(to, local); ok || f != (frame.Pulse{}) {
		t.Fatalf("%d, %d: %v, %v", to, local, f, ok)
	}
	stands(t, p, was, rests)
}

// takes fails, unless a reply tells that entry, and nothing is waited for then.
func takes(t testing.TB, p *Pair, r frame.Reply, local int, want table.Entry) {
	t.Helper()
	if e, ok := p.Hear(r, local); !ok || e != want {
		t.Fatalf("%v, %d: %v, %v, and not %v", r, local, e, ok, want)
	}
	stands(t, p, false, 0)
}

// takesNot fails, if a reply is taken, or the node is otherwise then.
func takesNot(t testing.TB, p *Pair, r frame.Reply, local int) {
	t.Helper()
	was, rests := p.Waits(), p.Rests()
	if e, ok := p.Hear(r, local); ok || e != (table.Entry{}) {
		t.Fatalf("%v, %d: %v, %v", r, local, e, ok)
	}
	stands(t, p, was, rests)
}

// rounds fails, unless the node's rounds go over so.
func rounds(t testing.TB, p *Pair, over ...bool) {
	t.Helper()
	for i, want := range over {
		if got := p.Beat(); got != want {
			t.Fatalf("round %d: %v", i, got)
		}
	}
}

// reckons fails, unless times can be, or can't, and are worth so much.
func reckons(t testing.TB, times Times, good bool, offset, delay int) {
	t.Helper()
	if times.Good() != good || times.Offset() != offset || times.Delay() != delay {
		t.Fatalf("%v: %v, %d, %d; and not %v, %d, %d", times, times.Good(), times.Offset(), times.Delay(), good, offset, delay)
	}
}

// P18.1: the chapter's example.
func TestTheChaptersExample(t *testing.T) {
	reckons(t, Times{Sent: 0, Got: 105, Back: 107, Came: 12}, true, 100, 5)
}

// P18.1: of four times each must be one.
func TestTimesThatCanBe(t *testing.T) {
	for _, n := range []int{0, 1, 2, 1000, top - 1, top} {
		reckons(t, Times{Got: n, Back: 0, Came: 0}, true, n/2, n/2)
		reckons(t, Times{Got: 0, Back: n, Came: 0}, true, n/2, -(n+1)/2)
		reckons(t, Times{Sent: n, Got: n, Back: n, Came: n}, true, 0, 0)
		reckons(t, Times{Sent: 0, Got: 0, Back: 0, Came: n}, true, -(n+1)/2, n/2)
	}
	for _, n := range noTimes() {
		for _, fair := range []int{0, 1, 500, top - 1, top} {
			reckons(t, Times{Sent: n, Got: fair, Back: fair, Came: fair}, false, 0, 0)
			reckons(t, Times{Sent: fair, Got: n, Back: fair, Came: fair}, false, 0, 0)
			reckons(t, Times{Sent: fair, Got: fair, Back: n, Came: fair}, false, 0, 0)
			reckons(t, Times{Sent: fair, Got: fair, Back: fair, Came: n}, false, 0, 0)
			reckons(t, Times{Sent: n, Got: fair, Back: fair, Came: n}, false, 0, 0)
		}
		reckons(t, Times{Sent: n, Got: n, Back: n, Came: n}, false, 0, 0)
	}
}

// P18.1: a reply comes no earlier than the pulse was sent; the other clock may show anything.
func TestARepliesOrder(t *testing.T) {
	for _, sent := range []int{1, 2, 1000, top - 1, top} {
		reckons(t, Times{Sent: sent, Got: sent, Back: sent, Came: sent - 1}, false, 0, 0)
		reckons(t, Times{Sent: sent, Got: sent, Back: sent, Came: sent}, true, 0, 0)
		reckons(t, Times{Sent: sent - 1, Got: sent, Back: sent, Came: sent}, true, 0, 0)
		reckons(t, Times{Sent: sent, Got: 7, Back: 3, Came: sent}, true, 5-sent, 2)
	}
	reckons(t, Times{Sent: top, Came: 0}, false, 0, 0)
	reckons(t, Times{Sent: 0, Came: top}, true, -top/2, top/2)
	reckons(t, Times{Sent: 0, Got: top, Back: 0, Came: top}, true, 0, top)
}

// P18.1: halves are rounded down, not towards 0.
func TestHalvesAreRoundedDown(t *testing.T) {
	reckons(t, Times{Sent: 0, Got: 3, Back: 3, Came: 0}, true, 3, 0)
	reckons(t, Times{Sent: 0, Got: 4, Back: 3, Came: 0}, true, 3, 0)
	reckons(t, Times{Sent: 0, Got: 1, Back: 0, Came: 0}, true, 0, 0)
	reckons(t, Times{Sent: 0, Got: 0, Back: 1, Came: 0}, true, 0, -1)
	reckons(t, Times{Sent: 0, Got: 0, Back: 2, Came: 0}, true, 1, -1)
	reckons(t, Times{Sent: 0, Got: 0, Back: 3, Came: 0}, true, 1, -2)
	reckons(t, Times{Sent: 3, Got: 0, Back: 0, Came: 3}, true, -3, 0)
	reckons(t, Times{Sent: 3, Got: 0, Back: 0, Came: 4}, true, -4, 0)
	reckons(t, Times{Sent: 3, Got: 0, Back: 0, Came: 5}, true, -4, 1)
	reckons(t, Times{Sent: 0, Got: 0, Back: 0, Came: 1}, true, -1, 0)
	reckons(t, Times{Sent: 0, Got: 0, Back: 0, Came: 2}, true, -1, 1)
	reckons(t, Times{Sent: 0, Got: 0, Back: 0, Came: 3}, true, -2, 1)
}

// P18.1: the greatest and the least that can be.
func TestTheGreatestAndTheLeast(t *testing.T) {
	reckons(t, Times{Sent: 0, Got: top, Back: top, Came: 0}, true, top, 0)
	reckons(t, Times{Sent: 0, Got: top, Back: top - 1, Came: 0}, true, top-1, 0)
	reckons(t, Times{Sent: top, Got: 0, Back: 0, Came: top}, true, -top, 0)
	reckons(t, Times{Sent: top, Got: 1, Back: 0, Came: top}, true, -top, 0)
	reckons(t, Times{Sent: top - 1, Got: 0, Back: 0, Came: top}, true, -top, 0)
	reckons(t, Times{Sent: 0, Got: top, Back: 0, Came: top}, true, 0, top)
	reckons(t, Times{Sent: 0, Got: top, Back: 1, Came: top}, true, 0, top-1)
	reckons(t, Times{Sent: 0, Got: 0, Back: top, Came: 0}, true, top/2, -top/2)
	reckons(t, Times{Sent: top, Got: 0, Back: top, Came: top}, true, -top/2, -top/2)
	reckons(t, Times{Sent: top, Got: 1, Back: top, Came: top}, true, -top/2, -top/2)
}

// P18.1: all times of some at the edges.
func TestTimesAtTheEdges(t *testing.T) {
	for _, sent := range edges() {
		for _, got := range edges() {
			for _, back := range edges() {
				for _, came := range edges() {
					plainly(t, Times{sent, got, back, came})
				}
			}
		}
	}
}

// plainly fails, unless times are reckoned as the rules say.
func plainly(t testing.TB, times Times) {
	t.Helper()
	if !can(times) {
		reckons(t, times, false, 0, 0)
		return
	}
	offset := halved(times.Got, -times.Sent, times.Back, -times.Came)
	delay := halved(times.Came, -times.Sent, -times.Back, times.Got)
	reckons(t, times, true, offset, delay)
	if offset < -top || offset > top || delay < -top/2 || delay > top {
		t.Fatalf("%v: %d, %d", times, offset, delay)
	}
}

// P18.1: all small times, and drawn ones.
func TestSmallAndDrawnTimes(t *testing.T) {
	for sent := -1; sent < 8; sent++ {
		for got := -1; got < 8; got++ {
			for back := -1; back < 8; back++ {
				for came := -1; came < 8; came++ {
					plainly(t, Times{sent, got, back, came})
				}
			}
		}
	}
	var s spread = 5
	for range 200000 {
		most := s.of(1, 10, 1000, 1<<32, top)
		plainly(t, Times{s.between(0, most), s.between(0, most), s.between(0, most), s.between(0, most)})
	}
	for range 20000 {
		plainly(t, Times{int(s.next() << 11), int(s.next() << 11), int(s.next()), int(s.next() >> 2)})
	}
}

// told are the times of a pulse that is sent then, goes for so long either way, and stays, where the other clock is ahead.
func told(sent, ahead, there, stay, here int) Times {
	return Times{Sent: sent, Got: sent + there + ahead, Back: sent + there + stay + ahead, Came: sent + there + stay + here}
}

// P18.2: where the other clock is ahead by the same all the time, and both ways take as long, Offset and Delay are just these.
func TestOffsetAndDelayOfEqualWays(t *testing.T) {
	for sent := range 12 {
		for ahead := -12; ahead <= 12; ahead++ {
			for way := range 12 {
				for stay := range 12 {
					if times := told(sent, ahead, way, stay, way); can(times) {
						reckons(t, times, true, ahead, way)
					}
				}
			}
		}
	}
	reckons(t, told(0, top, 0, 0, 0), true, top, 0)
	reckons(t, told(top, -top, 0, 0, 0), true, -top, 0)
	reckons(t, told(0, 0, top/2, 0, top/2), true, 0, top/2)
	reckons(t, told(0, top/2, top/2, 0, top/2), true, top/2, top/2)
	reckons(t, told(0, 1, 0, top-1, 0), true, 1, 0)
	reckons(t, told(1, -1, 0, top-1, 0), true, -1, 0)
	var s spread = 11
	seen := 0
	for range 200000 {
		most := s.of(100, 1<<20, top)
		way := s.between(0, most/2)
		times := told(s.between(0, most), s.between(-most, most), way, s.between(0, most/2), way)
		if can(times) {
			reckons(t, times, true, times.Got-times.Sent-way, way)
			seen++
		}
	}
	if seen < 50000 {
		t.Errorf("%d", seen)
	}
}

// P18.1, P18.2: where one way takes longer the offset is wrong by half of what it does so, and the delay is the mean of both.
func TestOffsetAndDelayOfOtherWays(t *testing.T) {
	for there := range 20 {
		for here := range 20 {
			times := told(100, 50, there, 7, here)
			reckons(t, times, true, 50+halved(there, -here), (there+here)/2)
		}
	}
}

// P18.1: New.
func TestNodesThatCanBe(t *testing.T) {
	for me := range 64 {
		stands(t, node(t, me), false, 0)
	}
	for _, me := range never() {
		if p, code := New(me); p != nil || code != api.ErrArg {
			t.Errorf("%d: %v, %d", me, p, code)
		}
	}
}

// P18.1: a new node neither waits nor rests, takes no reply, and has no round that matters.
func TestANewNode(t *testing.T) {
	for me := range 64 {
		p := node(t, me)
		for from := range 64 {
			takesNot(t, p, frame.Reply{From: from, To: me}, 0)
		}
		rounds(t, p, false, false, false, false)
		stands(t, p, false, 0)
		sends(t, p, (me+1)%64, 0, frame.Pulse{From: me, To: (me + 1) % 64})
	}
}

// P18.1: Ask of everybody, by everybody.
func TestAskOfEverybody(t *testing.T) {
	for me := range 64 {
		for to := range 64 {
			p := node(t, me)
			if to == me {
				sendsNot(t, p, to, 7)
			} else {
				sends(t, p, to, 7, frame.Pulse{From: me, To: to, Sent: 7})
			}
		}
		p := node(t, me)
		for _, to := range never() {
			sendsNot(t, p, to, 7)
			sendsNot(t, p, to, -1)
		}
		sends(t, p, 63-me, 7, frame.Pulse{From: me, To: 63 - me, Sent: 7})
	}
}

// P18.1: Ask at times, and at such as are none.
func TestAskAtTimes(t *testing.T) {
	p := node(t, 3)
	for _, local := range noTimes() {
		sendsNot(t, p, 4, local)
	}
	for _, local := range []int{0, 1, 1000, top - 1, top} {
		p.Boot()
		sends(t, p, 4, local, frame.Pulse{From: 3, To: 4, Sent: local})
	}
}

// P18.1: what is asked of a node that waits, or rests, changes nothing: the reply to what it asked before is taken.
func TestAskOfANodeThatMayNot(t *testing.T) {
	for place := range places {
		p, q := at(t, 3, place)
		if q.free() {
			continue
		}
		for _, to := range []int{least, -1, 0, 3, 4, 5, 63, 64, greatest} {
			for _, local := range []int{least, -1, 0, sentAt(place), 5000, top, top + 1, greatest} {
				sendsNot(t, p, to, local)
			}
		}
		takesNot(t, p, frame.Reply{From: 5, To: 3, Sent: 5000}, 6000)
		if q.waits() {
			takes(t, p, frame.Reply{From: 4, To: 3, Sent: sentAt(place)}, 6000, table.Entry{Local: 6000, Offset: halved(-sentAt(place), -6000), Hops: 1})
		}
	}
}

// P18.1: where a node may ask, what it may not ask changes nothing: nothing is waited for.
func TestAskWhatMayNotBeChangesNothing(t *testing.T) {
	for _, place := range []int{free0, free1, free2} {
		p, q := at(t, 3, place)
		for _, to := range []int{least, -1, 3, 64, greatest} {
			sendsNot(t, p, to, 5000)
			takesNot(t, p, frame.Reply{From: to, To: 3, Sent: 5000}, 6000)
		}
		for _, local := range noTimes() {
			sendsNot(t, p, 4, local)
			takesNot(t, p, frame.Reply{From: 4, To: 3, Sent: local}, 6000)
		}
		follows(t, p, q, beats())
		for range 20 {
			follows(t, p, q, asks(5, 5000))
			follows(t, p, q, beats())
		}
	}
}

// P18.1: the same number may be asked for in a later pulse of the same time.
func TestAskAgain(t *testing.T) {
	p := node(t, 3)
	for range 5 {
		sends(t, p, 4, 9, frame.Pulse{From: 3, To: 4, Sent: 9})
		takes(t, p, frame.Reply{From: 4, To: 3, Sent: 9, Got: 9, Back: 9}, 9, table.Entry{Local: 9, Hops: 1})
	}
	sends(t, p, 5, 8, frame.Pulse{From: 3, To: 5, Sent: 8})
}

// P18.1: Hear of a node that doesn't wait, wherever it is.
func TestHearOfANodeThatDoesntWait(t *testing.T) {
	for place := range places {
		p, q := at(t, 3, place)
		if q.waits() {
			continue
		}
		for _, sent := range []int{0, 1000, sentAt(place)} {
			for _, from := range []int{0, 3, 4} {
				takesNot(t, p, frame.Reply{From: from, To: 3, Sent: sent, Got: sent, Back: sent}, 5000)
			}
		}
		for range 20 {
			follows(t, p, q, beats())
			follows(t, p, q, asks(5, 5000))
		}
	}
}

// P18.1: Hear of replies to others, from others, and to other pulses: it waits on.
func TestHearOfRepliesToOthers(t *testing.T) {
	for _, place := range []int{first1, second1, first2, second2, first3, second3} {
		p, _ := at(t, 3, place)
		sent := sentAt(place)
		good := frame.Reply{From: 4, To: 3, Sent: sent, Got: 7000, Back: 7100}
		for n := range 64 {
			r := good
			r.To = n
			if n != 3 {
				takesNot(t, p, r, 5000)
			}
			r = good
			r.From = n
			if n != 4 {
				takesNot(t, p, r, 5000)
			}
			r.To = 4
			takesNot(t, p, r, 5000)
		}
		for _, n := range never() {
			takesNot(t, p, frame.Reply{From: n, To: 3, Sent: sent, Got: 7000, Back: 7100}, 5000)
			takesNot(t, p, frame.Reply{From: 4, To: n, Sent: sent, Got: 7000, Back: 7100}, 5000)
		}
		for _, other := range append(noTimes(), 0, 1, sent-2, sent-1, sent+1, sent+2, 5000, top) {
			takesNot(t, p, frame.Reply{From: 4, To: 3, Sent: other, Got: 7000, Back: 7100}, 5000)
		}
		for earlier := 1000; earlier < sent; earlier += 100 {
			takesNot(t, p, frame.Reply{From: 4, To: 3, Sent: earlier, Got: 7000, Back: 7100}, 5000)
		}
		takes(t, p, good, 5000, table.Entry{Local: 5000, Offset: halved(7000, -sent, 7100, -5000), Hops: 1})
		takesNot(t, p, good, 5000)
		takesNot(t, p, good, 5001)
	}
}

// P18.1: Hear of times, and of such as are none.
func TestHearOfTimes(t *testing.T) {
	for _, sent := range []int{0, 1, 1000, top - 1, top} {
		for _, got := range edges() {
			for _, back := range edges() {
				for _, local := range append(edges(), sent-1, sent, sent+1) {
					p, q := node(t, 3), &plain{me: 3}
					follows(t, p, q, asks(4, sent))
					told := follows(t, p, q, hears(frame.Reply{From: 4, To: 3, Sent: sent, Got: got, Back: back}, local))
					if told.is && !told.entry.Good() {
						t.Fatalf("%v", told)
					}
				}
			}
		}
	}
}

// P18.1: a reply that comes when the pulse was sent, or behind that, but not ahead of it.
func TestHearAheadOfThePulse(t *testing.T) {
	for _, sent := range []int{0, 1, 1000, top} {
		p := node(t, 3)
		sends(t, p, 4, sent, frame.Pulse{From: 3, To: 4, Sent: sent})
		good := frame.Reply{From: 4, To: 3, Sent: sent, Got: sent, Back: sent}
		takesNot(t, p, good, sent-1)
		takesNot(t, p, good, least)
		takesNot(t, p, good, top+1)
		takes(t, p, good, sent, table.Entry{Local: sent, Offset: 0, Hops: 1})
	}
}

// P18.1: Hear of hops: of the other one and one more an entry must be; of what is none the node waits on.
func TestHearOfHops(t *testing.T) {
	for hops := range 63 {
		p := node(t, 3)
		sends(t, p, 4, 1000, frame.Pulse{From: 3, To: 4, Sent: 1000})
		for _, odd := range append(never(), 63) {
			takesNot(t, p, frame.Reply{From: 4, To: 3, Sent: 1000, Got: 5000, Back: 5000, Hops: odd}, 1000)
		}
		takes(t, p, frame.Reply{From: 4, To: 3, Sent: 1000, Got: 5000, Back: 5000, Hops: hops}, 1000, table.Entry{Local: 1000, Offset: 4000, Hops: hops + 1})
	}
}

// P18.1: offsets at the ends of what an entry may have.
func TestHearOfTheGreatestOffsets(t *testing.T) {
	p := node(t, 3)
	sends(t, p, 4, 0, frame.Pulse{From: 3, To: 4})
	takes(t, p, frame.Reply{From: 4, To: 3, Got: top, Back: top}, 0, table.Entry{Offset: top, Hops: 1})
	sends(t, p, 4, top, frame.Pulse{From: 3, To: 4, Sent: top})
	takes(t, p, frame.Reply{From: 4, To: 3, Sent: top, Hops: 62}, top, table.Entry{Local: top, Offset: -top, Hops: 63})
}

// P18.1: a reply's other fields play no part.
func TestOtherFieldsPlayNoPart(t *testing.T) {
	for _, root := range append(never(), 0, 3, 4, 63) {
		for _, life := range []uint16{0, 1, 2, 32767, 32768, 65535} {
			p := node(t, 3)
			sends(t, p, 4, 1000, frame.Pulse{From: 3, To: 4, Sent: 1000})
			takesNot(t, p, frame.Reply{From: 5, To: 3, Sent: 1000, Got: 5100, Back: 5900, Root: root, Boot: life, Hops: 1}, 2000)
			takes(t, p, frame.Reply{From: 4, To: 3, Sent: 1000, Got: 5100, Back: 5900, Root: root, Boot: life, Hops: 1}, 2000, table.Entry{Local: 2000, Offset: 4000, Hops: 2})
		}
	}
}

// P18.1: Beat of a node that waits: in vain once, twice, three times; and it begins anew.
func TestInVain(t *testing.T) {
	p := node(t, 3)
	for range 3 {
		for try, rests := range []int{1, 3, 0} {
			sends(t, p, 4+try, 1000, frame.Pulse{From: 3, To: 4 + try, Sent: 1000})
			rounds(t, p, false)
			stands(t, p, true, 0)
			rounds(t, p, try == 2)
			stands(t, p, false, rests)
			for left := rests - 1; left >= 0; left-- {
				rounds(t, p, false)
				stands(t, p, false, left)
			}
			rounds(t, p, false, false, false)
			stands(t, p, false, 0)
		}
	}
}

// P18.1: a reply, however late, makes a node begin anew: it rests as behind the first time.
func TestAReplyMakesItBeginAnew(t *testing.T) {
	for _, place := range []int{first1, second1, first2, second2, first3, second3} {
		p, _ := at(t, 3, place)
		sent := sentAt(place)
		takes(t, p, frame.Reply{From: 4, To: 3, Sent: sent, Got: sent, Back: sent}, sent, table.Entry{Local: sent, Hops: 1})
		rounds(t, p, false, false)
		stands(t, p, false, 0)
		sends(t, p, 4, 8000, frame.Pulse{From: 3, To: 4, Sent: 8000})
		rounds(t, p, false, false)
		stands(t, p, false, 1)
		rounds(t, p, false)
		sends(t, p, 4, 8000, frame.Pulse{From: 3, To: 4, Sent: 8000})
		rounds(t, p, false, false)
		stands(t, p, false, 3)
	}
}

// P18.1: Boot, wherever a node is: it neither waits nor rests, and what was in vain is forgotten, as are the pulses.
func TestBoot(t *testing.T) {
	for place := range places {
		p, _ := at(t, 3, place)
		p.Boot()
		stands(t, p, false, 0)
		early := frame.Reply{From: 4, To: 3, Sent: sentAt(place), Got: 4000, Back: 4000}
		takesNot(t, p, early, 4000)
		sends(t, p, 4, 6000, frame.Pulse{From: 3, To: 4, Sent: 6000})
		takesNot(t, p, early, 7000)
		rounds(t, p, false, false)
		stands(t, p, false, 1)
		p.Boot()
		p.Boot()
		stands(t, p, false, 0)
		q := &plain{me: 3}
		for range 25 {
			follows(t, p, q, asks(9, 100))
			follows(t, p, q, beats())
		}
	}
}

// P18.1: two nodes know nothing of one another.
func TestNodesKnowNothingOfOneAnother(t *testing.T) {
	var s spread = 13
	p, q := make([]*Pair, 8), make([]*plain, 8)
	for i := range p {
		p[i], q[i] = node(t, i%4), &plain{me: i % 4}
	}
	for range 20000 {
		i := s.between(0, 7)
		follows(t, p[i], q[i], drawnAct(&s, q[i]))
	}
}

// P18.1: asking whether it waits, or rests, changes nothing.
func TestAskingChangesNothing(t *testing.T) {
	var s spread = 3
	for range 2000 {
		asked, quiet, q := node(t, 9), node(t, 9), &plain{me: 9}
		for range s.between(1, 30) {
			a := drawnAct(&s, q)
			q.does(a)
			is := does(quiet, a)
			if got := does(asked, a); got != is {
				t.Fatalf("%v: %v, and not %v", a, got, is)
			}
			for range s.between(0, 3) {
				asked.Waits()
				asked.Rests()
			}
		}
		stands(t, asked, quiet.Waits(), quiet.Rests())
	}
}

// P18.1: a nil node.
func TestANilNode(t *testing.T) {
	var p *Pair
	stands(t, p, false, 0)
	for to := -1; to <= 64; to++ {
		for _, local := range []int{-1, 0, 7, top, top + 1} {
			sendsNot(t, p, to, local)
			takesNot(t, p, frame.Reply{From: to}, local)
			takesNot(t, p, frame.Reply{To: to, Sent: local, Got: local, Back: local}, local)
		}
	}
	rounds(t, p, false, false, false, false)
	p.Boot()
	stands(t, p, false, 0)
}

// fewActs are some of each kind: for a node 3 that asks node 4 or 5, or may not, and replies to that, to earlier pulses, and such as can't be.
func fewActs(sent int) []act {
	good := frame.Reply{From: 4, To: 3, Sent: sent, Got: 900, Back: 905}
	other := good
	other.From = 5
	late := good
	late.Hops = 63
	fresh := good
	fresh.Sent = 2500
	return []act{asks(4, 2500), asks(5, sent), asks(3, 2500), asks(4, -1), hears(good, 3000), hears(other, 3000), hears(late, 3000), hears(fresh, 3000), beats(), boots()}
}

// P18.1: from each place, all orders of four of a few acts.
func TestEveryOrderOfAFewActs(t *testing.T) {
	for place := range places {
		acts := fewActs(sentAt(place))
		lead := path(place)
		row := append(lead, make([]act, 4)...)
		for pattern := range 10 * 10 * 10 * 10 {
			rest := pattern
			for i := range 4 {
				row[len(lead)+i] = acts[rest%10]
				rest /= 10
			}
			watched(t, 3, row...)
		}
	}
}

// P18.1: all orders of nine of the four kinds of acts, and of sixteen of Ask and Beat alone.
func TestEveryOrderOfTheKinds(t *testing.T) {
	good := frame.Reply{From: 0, To: 63, Sent: 10, Got: 5, Back: 5, Hops: 62}
	acts := []act{asks(0, 10), beats(), hears(good, 12), boots()}
	row := make([]act, 9)
	for pattern := range 1 << 18 {
		for i := range row {
			row[i] = acts[pattern>>(2*i)&3]
		}
		watched(t, 63, row...)
	}
	long := make([]act, 16)
	for pattern := range 1 << 16 {
		for i := range long {
			long[i] = acts[pattern>>i&1]
		}
		watched(t, 63, long...)
	}
}

// drawnAct is one that often leads on: for a node that is as its plain one is.
func drawnAct(s *spread, q *plain) act {
	switch s.between(0, 9) {
	case 0, 1, 2:
		return asks(s.of((q.me+1)%64, (q.me+2)%64, q.me, s.between(-1, 64), s.of(never()...)), s.of(s.between(0, 5), s.between(0, top), s.of(edges()...)))
	case 3, 4, 5, 6:
		return beats()
	case 7:
		if s.between(0, 9) == 0 {
			return boots()
		}
	}
	r := frame.Reply{From: q.to, To: q.me, Sent: q.sent, Got: s.between(0, top), Back: s.between(0, top), Hops: s.between(0, 62), Root: s.of(0, 9, -1, 64), Boot: uint16(s.next())}
	local := s.between(0, 5) + q.sent
	switch s.between(0, 15) {
	case 0:
		r.From = s.of((q.me+1)%64, q.me, s.of(never()...))
	case 1:
		r.To = s.of((q.me+1)%64, s.of(never()...))
	case 2:
		r.Sent = s.of(r.Sent-1, r.Sent+1, s.of(edges()...))
	case 3:
		r.Got = s.of(edges()...)
	case 4:
		r.Back = s.of(edges()...)
	case 5:
		r.Hops = s.of(63, s.of(never()...))
	case 6:
		local = s.of(r.Sent-1, s.of(edges()...))
	}
	return hears(r, local)
}

// P18.1: drawn acts.
func TestDrawnActs(t *testing.T) {
	var s spread = 17
	taken, gave := 0, 0
	for range 10000 {
		me := s.between(0, 63)
		p, q := node(t, me), &plain{me: me}
		for range s.between(1, 60) {
			a := drawnAct(&s, q)
			if got := follows(t, p, q, a); got.is && a.what == hear {
				taken++
			} else if got.is && a.what == beat {
				gave++
			}
		}
	}
	if taken < 10000 || gave < 300 {
		t.Errorf("taken %d, given up %d", taken, gave)
	}
}

// P18.2: two nodes ask one another, where each one's clock is ahead of the other's by the same all the time.
func TestTwoThatAskOneAnother(t *testing.T) {
	var s spread = 19
	for range 2000 {
		one, two := node(t, 1), node(t, 2)
		ahead := s.between(-top/4, top/4)
		now := top / 2
		for range 20 {
			way, stay := s.between(0, 50), s.between(0, 3000)
			exchanged(t, one, two, told(now, ahead, way, stay, way), ahead)
			exchanged(t, two, one, told(now+ahead, -ahead, way, stay, way), -ahead)
			now += s.between(1, 10000)
		}
	}
}

// exchanged fails, unless a node that asks another one at such times is told that offset.
func exchanged(t testing.TB, asker, other *Pair, times Times, offset int) {
	t.Helper()
	f, ok := asker.Ask(other.me, times.Sent)
	if !ok {
		t.Fatalf("%v", times)
	}
	r := frame.Reply{From: f.To, To: f.From, Sent: f.Sent, Got: times.Got, Back: times.Back, Hops: 3}
	if !frame.Good(f) || !frame.Good(r) {
		t.Fatalf("%v, %v", f, r)
	}
	takesNot(t, other, r, times.Came)
	takes(t, asker, r, times.Came, table.Entry{Local: times.Came, Offset: offset, Hops: 4})
}

// P18.3: who asks again and again, and gets no reply, gives up just behind the tenth round, and again so.
func TestWhoGetsNoReplyGivesUp(t *testing.T) {
	for me := range 64 {
		p := node(t, me)
		for life := range 5 {
			asked := 0
			for round := 1; round <= 10; round++ {
				if _, ok := p.Ask((me+1+asked)%64, 100*life+round); ok {
					asked++
				}
				if p.Beat() != (round == 10) {
					t.Fatalf("node %d, round %d", me, round)
				}
			}
			if asked != 3 {
				t.Fatalf("node %d: %d", me, asked)
			}
			stands(t, p, false, 0)
		}
	}
}

// P18.3: wherever a node is it gives up within 10 rounds, if it asks whenever it may, whatever else it is told than a reply.
func TestWhoIsToldOtherThingsGivesUp(t *testing.T) {
	var s spread = 23
	for range 20000 {
		p, q := at(t, 3, s.between(0, places-1))
		gone := 0
		for given := false; !given; gone++ {
			if gone == 10 {
				t.Fatalf("%v", q)
			}
			follows(t, p, q, asks(s.of(0, 2, 4, 63), s.between(0, 9000)))
			for range s.between(0, 3) {
				a := drawnAct(&s, q)
				if a.what == hear {
					a.reply.Hops = 63
				}
				if a.what == beat || a.what == boot {
					continue
				}
				follows(t, p, q, a)
			}
			given = follows(t, p, q, beats()).is
		}
		stands(t, p, false, 0)
	}
}
