package node

import (
	"slices"
	"testing"

	"angelus/api"
	"angelus/bound"
	"angelus/duty"
	"angelus/elect"
	"angelus/flood"
	"angelus/frame"
	"angelus/leap"
	"angelus/source"
)

// act is something that is done to a node.
type act func(b both)

// few are acts of which every order is tried.
func few(t testing.TB) []act {
	says := func(f frame.Frame) act {
		return func(b both) { b.hears(f) }
	}
	return []act{
		func(b both) { b.on(100) },
		func(b both) { b.off() },
		func(b both) { b.goes(1000) },
		func(b both) { b.send(1, 1) },
		func(b both) { b.fix(86400) },
		func(b both) { b.tag("door"); b.tag("bell"); b.take() },
		says(word(6, 500)),
		says(frame.Sync{From: 1, Root: 0, Boot: 3, Seq: 7, Hops: 4, Time: 1500}),
		says(frame.Find{From: 2, Level: 0}),
		says(seeks()),
		says(pulse(40)),
		says(anchored(4, 86400)),
		func(b both) {
			b.hears(frame.Reply{From: 2, To: 5, Sent: 101, Got: 700, Back: 800, Root: 0, Boot: 3, Hops: 1})
		},
		func(b both) {
			for range 7 {
				b.hears(seeks())
			}
		},
	}
}

// P26.1
func TestAllOrdersOfAFewActs(t *testing.T) {
	const length = 4
	r := leaps(t, 0, 0, 1000)
	acts := few(t)
	s := gate()
	s.Rules.Timeout, s.Rules.Ignore, s.Rules.Need = 3, 1, 2
	all := 1
	for range length {
		all *= len(acts)
	}
	for n := range all {
		b := begun(t, s, r, 100)
		for range length {
			acts[n%len(acts)](b)
			n /= len(acts)
		}
		b.send(1, 0)
		b.send(5, 0)
	}
}

// P26.1: likewise, of nodes that have of everything.
func TestAllOrdersOfAFewActsLater(t *testing.T) {
	const length = 3
	acts := few(t)
	all := 1
	for range length {
		all *= len(acts)
	}
	for _, way := range ways() {
		for n := range all {
			b := lived(t, way, 100)
			for range length {
				acts[n%len(acts)](b)
				n /= len(acts)
			}
			b.send(1, 0)
			b.send(5, 0)
		}
	}
}

// P26.1: no node answers anything else, whatever is done.
func TestAFewActsOfNobody(t *testing.T) {
	for _, a := range few(t) {
		a(nobody(t))
	}
}

// drawnSetup is any that can be, most of them with small numbers.
func drawnSetup(s *spread) Setup {
	x := Setup{
		Me:    s.of(0, 1, 5, 5, 5, 62, 63),
		Rules: flood.Rules{Rules: elect.Rules{Timeout: s.of(1, 2, 3, 5, 9, 40, 1000), Ignore: s.of(0, 0, 1, 3, 1000)}, Need: s.of(1, 1, 2, 3, 8), Drift: s.between(0, 10)},
		Plan:  duty.Plan{Round: s.of(1, 2, 4, 7, 64)},
		Gate:  s.of(0, 1) == 1,
	}
	x.Plan.Open, x.Plan.Own = s.between(1, x.Plan.Round), s.between(0, x.Plan.Round-1)
	x.Limit, x.Jitter = s.of(1, x.Rules.Timeout, s.between(1, x.Rules.Timeout)), s.of(0, 1, 3, 20)
	return x
}

// drawnTime is a time about the root's, as the node knows it, or any one.
func drawnTime(s *spread, b both) int {
	at := b.p.now
	if a, code := b.n.Time(); code == api.OK {
		at = a.Time
	}
	return max(0, min(top, s.of(at, at, at, at+s.between(-30, 30), at+s.between(-30, 30), at+s.between(-100000, 100000), s.between(0, top), 0, top, top-s.between(0, 3000))))
}

// drawnFrame is one that may concern a node, or not.
func drawnFrame(s *spread, b both) frame.Frame {
	me := b.p.s.Me
	from := (me + s.of(0, 1, 2, 3, 3, 4, 4, 5, 33)) % 64
	whose := source.Whose{Root: s.of(0, 0, 0, 3, from, 63), Boot: uint16(s.of(0, 3, 3, 3, 4, 40000, 65535))}
	if a, code := b.n.Time(); code == api.OK && s.between(0, 2) > 0 {
		whose = a.Whose
	}
	switch s.between(0, 9) {
	case 0, 1, 2:
		f := frame.Sync{From: from, Root: s.of(0, 0, 0, 0, 3, 3, 6, 63), Boot: uint16(s.of(2, 3, 3, 3, 3, 3, 4, 40000)), Seq: uint16(s.between(0, 65535)), Hops: s.of(0, 0, 1, 5, 62, 63), Time: drawnTime(s, b)}
		if m, ok := b.n.Mark(); ok && s.between(0, 4) > 0 {
			f.Root, f.Boot, f.Seq = b.p.root, m.Boot+uint16(s.of(0, 0, 0, 0, 0, 1)), m.Seq+uint16(s.of(0, 1, 1, 1, 2, 65535))
		}
		return f
	case 3:
		return frame.Find{From: from, Level: s.of(0, 0, 1, 2, 7, 61, 62, 63)}
	case 4:
		return frame.Want{From: from}
	case 5:
		return frame.Pulse{From: from, To: s.of(me, me, me, from, 0, 63), Sent: drawnTime(s, b)}
	case 6, 7:
		f := frame.Reply{From: from, To: s.of(me, me, me, 0), Sent: b.p.now, Got: drawnTime(s, b), Back: drawnTime(s, b), Root: whose.Root, Boot: whose.Boot, Hops: s.of(0, 1, 1, 7, 62, 63)}
		if len(b.p.pulse) > 0 && s.between(0, 4) > 0 {
			f.From, f.To, f.Sent = b.p.pulse[0].To, b.p.pulse[0].From, b.p.pulse[0].Sent
		}
		return f
	}
	f := frame.Anchor{From: from, Seq: uint16(s.of(1, 4, 40000)), Root: whose.Root, Boot: whose.Boot, Global: drawnTime(s, b), Tai: s.of(0, 86400, 86400*20+s.between(-9, 9), top, s.between(0, top))}
	if len(b.p.anchors) > 0 {
		f.Seq = b.p.anchors[len(b.p.anchors)-1].Seq + uint16(s.of(0, 1, 1, 1, 2, 32767, 32768, 65535))
	}
	return f
}

// drawnHear lets a frame come, some torn, or with a jitter that can't be.
func drawnHear(s *spread, b both) {
	x := coded(b.t, drawnFrame(s, b))
	if s.between(0, 19) == 0 {
		x[s.between(0, len(x)-1)] ^= byte(s.between(1, 255))
	}
	if s.between(0, 29) == 0 {
		x = x[:s.between(0, len(x))]
	}
	b.hear(drawnJitter(s, b), x...)
}

func drawnJitter(s *spread, b both) int {
	most := b.p.s.Jitter
	return s.of(0, 0, 0, 0, 0, 0, s.between(-most, most), s.between(-most, most), most, -most, most+s.between(0, 1), -most-s.between(0, 1))
}

// acts does something that is drawn.
func acts(s *spread, b both, step int) {
	d := b.p.s.Rules.Drift
	switch s.between(0, 99) {
	case 0:
		b.on(uint32(s.of(0, 5, 1000, 1<<32-1, s.between(0, 1<<32-1))))
	case 1:
		b.off()
		if s.between(0, 3) > 0 {
			b.on(uint32(s.between(0, 5000)))
		}
	case 2, 3, 4, 5:
		b.tag([]string{"door", "bell_2", "Door", ""}[s.of(0, 0, 1, 1, 2, 3)])
	case 6, 7:
		b.take()
	case 8, 9, 10:
		b.fix(s.of(0, 86400, 86400*20, 86400*20, top, top+1, -1, least, greatest))
	case 11:
		b.goes(s.of(least, 0, 999-d, 1001+d, greatest))
	case 12:
		b.send(s.of(-1, step+1, least, greatest, step-b.p.s.Plan.Round), drawnJitter(s, b))
	case 13:
		if b.p.on && s.between(0, 9) == 0 {
			b.wind(top - s.between(0, 6000))
		}
	default:
		drawnHear(s, b)
	}
}

// P26.1: calls in every order, of nodes of many setups.
func TestDrawnCalls(t *testing.T) {
	var s spread = 2600
	all := []*leap.Table{nil, leaps(t, 0, 0, 30000), leaps(t, 0, 3, 40, leap.Leap{Day: 19, Step: 1}), leaps(t, 0, 3, 40, leap.Leap{Day: 19, Step: -1})}
	for range 700 {
		b := made(t, drawnSetup(&s), all[s.between(0, 3)])
		if s.between(0, 9) > 0 {
			b.on(uint32(s.of(0, 5, 1<<32-3000, s.between(0, 100000))))
		}
		calls := s.of(0, 1, 2, 4, 8)
		for step := range 120 {
			for range s.between(0, calls) {
				acts(&s, b, step)
			}
			b.send(step, drawnJitter(&s, b))
			if s.between(0, 9) > 0 {
				b.goes(1000 + s.between(-b.p.s.Rules.Drift, b.p.s.Rules.Drift))
			}
		}
	}
}

// pairing are nodes in the same air: in each step all clocks go on, and what one sends the others hear, but for what is lost.
type pairing struct {
	s     *spread
	nodes []both
	// Whether a word from one to another one is lost.
	lost func(from, to int) bool
	step int
	air  int // so many frames were heard
}

// goes makes a step, in which clocks and stamps are as wrong as they may be, in every way.
func (p *pairing) goes() {
	for _, b := range p.nodes {
		if b.p.on {
			d := b.p.s.Rules.Drift
			b.goes(1000 + p.s.of(-d, d, d, 0, p.s.between(-d, d)))
		}
	}
	for i, b := range p.nodes {
		list, _ := b.send(p.step, p.jitter(b))
		for _, f := range list {
			p.says(i, f)
		}
	}
	p.step++
}

func (p *pairing) says(from int, f frame.Frame) {
	for i, b := range p.nodes {
		if i != from && b.p.on && b.n.Awake() && !p.lost(from, i) {
			b.hear(p.jitter(b), coded(b.t, f)...)
			p.air++
		}
	}
}

func (p *pairing) jitter(b both) int {
	most := b.p.s.Jitter
	return p.s.of(-most, most, 0, p.s.between(-most, most))
}

// near fails, unless what a node tells is no farther from the clock of whose it is than layer 25's Error of its hops.
func (p *pairing) near(b both) source.Way {
	b.t.Helper()
	a, code := b.n.Time()
	if code != api.OK {
		return source.None
	}
	root := p.nodes[a.Whose.Root].n.Status()
	if !root.On || root.Boot != a.Whose.Boot {
		return source.None
	}
	x := b.p.s
	if off := max(a.Time-root.Now, root.Now-a.Time); off > bound.Of(x.Rules, x.Plan, x.Jitter).Error(a.Hops) {
		b.t.Fatalf("%d: %v, but %d", p.step, a, root.Now)
	}
	return a.Way
}

// together are so many nodes that are on, with their own steps one behind the other, from the first one on; where some sleep their clocks begin with a round, so that they are awake in these steps.
func together(t testing.TB, s *spread, count int, x Setup) *pairing {
	t.Helper()
	p := &pairing{s: s, lost: func(int, int) bool { return false }}
	for me := range count {
		x.Me, x.Plan.Own = me, me
		x.Gate = me == 1
		b := made(t, x, leaps(t, 0, 0, 30000))
		raw := s.of(0, 77, 123456, 1<<32-20000)
		if x.Plan.Open < x.Plan.Round {
			raw -= raw % x.Plan.Ticks()
		}
		b.on(uint32(raw))
		p.nodes = append(p.nodes, b)
	}
	return p
}

// P26.1: two nodes that hear each other, behind many rounds: each tells the time of the one of the lesser number, and near it.
func TestTwoNodesThatHearEachOther(t *testing.T) {
	var s spread = 2601
	for _, need := range []int{1, 2, 8} {
		for _, misses := range []int{0, 1, 3} {
			for _, drift := range []int{0, 3, 10} {
				x := Setup{Rules: flood.Rules{Rules: elect.Rules{Timeout: 12, Ignore: 2}, Need: need, Drift: drift}, Plan: duty.Plan{Round: 8, Open: 8}, Limit: 12, Jitter: s.of(0, 3, 20)}
				if drift == 0 {
					x.Plan.Open = 3
				}
				p := together(t, &s, 2, x)
				p.lost = func(int, int) bool { return s.between(0, 3) < misses }
				count := map[source.Way]int{}
				sleeps := 0
				for range 8 * 150 {
					p.goes()
					for _, b := range p.nodes {
						count[p.near(b)]++
						if !b.n.Awake() {
							sleeps++
						}
					}
				}
				if (sleeps > 500) != (drift == 0) {
					t.Errorf("%v: asleep in %d", x, sleeps)
				}
				if misses == 0 {
					a, code := p.nodes[1].n.Time()
					if w := (source.Whose{Root: 0, Boot: 1}); code != api.OK || a.Whose != w || a.Way != source.Flooded || a.Hops != 1 || !p.nodes[0].n.Status().Mine {
						t.Fatalf("%v: %v, %d", x, a, code)
					}
				}
				if count[source.Own] < 500 || misses < 3 && count[source.Flooded] < 500 || need == 8 && misses == 1 && count[source.Asked] < 8 {
					t.Errorf("%v, %d: %v", x, misses, count)
				}
			}
		}
	}
}

// P26.1: events and the world's time of two nodes: what the gate was told the other one tells, too.
func TestTwoNodesTellTheWorldsTime(t *testing.T) {
	var s spread = 2602
	x := Setup{Rules: flood.Rules{Rules: elect.Rules{Timeout: 6}, Need: 1}, Plan: duty.Plan{Round: 4, Open: 4}, Limit: 6}
	p := together(t, &s, 2, x)
	for range 60 {
		p.goes()
	}
	const begin = 86400 * 5000
	if p.nodes[0].fix(begin) != api.ErrNone || p.nodes[1].fix(begin) != api.OK {
		t.Fatal("it is no gate")
	}
	for seconds := range 60 {
		one, ticks, code := p.nodes[1].n.Utc()
		if one.Hour != 0 || one.Min != 0 || one.Sec != seconds || ticks != 0 || code != api.OK {
			t.Fatalf("%d: %v, %d, %d", seconds, one, ticks, code)
		}
		if seconds > 8 {
			if other, of, code := p.nodes[0].n.Utc(); other != one || of != ticks || code != api.OK {
				t.Fatalf("%v, %d, %d; and not %v", other, of, code, one)
			}
		}
		p.goes()
	}
	for _, b := range p.nodes {
		b.tag("door")
	}
	first, _ := p.nodes[0].take()
	second, _ := p.nodes[1].take()
	if first.When.Time != second.When.Time || first.Local == second.Local && first.Local != first.When.Time || first.When.Whose != second.When.Whose {
		t.Errorf("%v, %v", first, second)
	}
}

// P26.1: three nodes, the last of which hears the second one alone: over two hops, and asked of somebody.
func TestThreeNodesInARow(t *testing.T) {
	var s spread = 2603
	for _, need := range []int{1, 8} {
		for _, drift := range []int{0, 10} {
			x := Setup{Rules: flood.Rules{Rules: elect.Rules{Timeout: 15, Ignore: 1}, Need: need, Drift: drift}, Plan: duty.Plan{Round: 6, Open: 6}, Limit: 4, Jitter: 5}
			p := together(t, &s, 3, x)
			p.lost = func(from, to int) bool { return from-to > 1 || to-from > 1 }
			count := map[source.Way]int{}
			for range 6 * 120 {
				p.goes()
				for _, b := range p.nodes {
					count[p.near(b)]++
				}
			}
			a, code := p.nodes[2].n.Time()
			if code != api.OK || a.Hops != 2 || a.Whose != (source.Whose{Root: 0, Boot: 1}) || a.Way != source.Flooded || need == 8 && count[source.Asked] < 6 {
				t.Errorf("%v: %v, %d, %v", x, a, code, count)
			}
			// The root goes off, and comes again.
			p.nodes[0].off()
			for range 6 * 40 {
				p.goes()
			}
			if a, code := p.nodes[2].n.Time(); code != api.OK || a.Whose != (source.Whose{Root: 1, Boot: 1}) {
				t.Errorf("%v, %d", a, code)
			}
			p.nodes[0].on(9)
			for range 6 * 60 {
				p.goes()
				for _, b := range p.nodes {
					p.near(b)
				}
			}
			if a, code := p.nodes[2].n.Time(); code != api.OK || a.Whose != (source.Whose{Root: 0, Boot: 2}) || a.Hops != 2 {
				t.Errorf("%v, %d", a, code)
			}
		}
	}
}

// alone does drawn acts to a node; to another one, if there is such, others in between.
func alone(t testing.TB, seed spread, x Setup, other func(step int)) []string {
	t.Helper()
	b := begun(t, x, leaps(t, 0, 0, 30000), 77)
	var told []string
	for step := range 200 {
		other(step)
		acts(&seed, b, step)
		out, _ := b.send(step, 0)
		for _, f := range out {
			told = append(told, string(coded(t, f)))
		}
		b.goes(1000)
	}
	return told
}

// P26.1: of two nodes of which neither hears the other one changes nothing of the other, whatever is done to it, the same table in the hands of both.
func TestTwoNodesThatDontHearEachOther(t *testing.T) {
	for seed := range spread(60) {
		drawn := seed + 2700
		one, two := drawnSetup(&drawn), drawnSetup(&drawn)
		want := alone(t, seed, one, func(int) {})
		b := made(t, two, leaps(t, 0, 0, 30000))
		beside := seed + 999
		is := alone(t, seed, one, func(step int) {
			for range 3 {
				acts(&beside, b, step)
				b.send(step, 0)
			}
		})
		if !slices.Equal(is, want) {
			t.Fatalf("%v, %v: %x; and not %x", one, two, is, want)
		}
	}
}

// P26.2: a node that is off hears and sends nothing, among others that send; its clock stands.
func TestANodeThatIsOffAmongOthers(t *testing.T) {
	var s spread = 2604
	x := Setup{Rules: flood.Rules{Rules: elect.Rules{Timeout: 6}, Need: 1, Drift: 2}, Plan: duty.Plan{Round: 4, Open: 4}, Limit: 6, Jitter: 1}
	p := together(t, &s, 3, x)
	for range 80 {
		p.goes()
	}
	p.nodes[1].off()
	for range 80 {
		p.goes()
		for _, f := range []frame.Frame{frame.Want{From: 0}, word(9, 5), anchored(3, 4)} {
			if p.nodes[1].hears(f) != api.ErrOff {
				t.Fatal("it hears")
			}
		}
		if p.nodes[1].goes(1000) != api.ErrOff || p.nodes[1].n.Awake() || p.nodes[1].n.clock.Now() == 0 {
			t.Fatal("its clock goes on")
		}
	}
	stood := p.nodes[1].n.clock.Now()
	if p.nodes[1].goes(1000); p.nodes[1].n.clock.Now() != stood || p.nodes[1].n.Status() != (Status{Boot: 1}) {
		t.Error(p.nodes[1].n.Status())
	}
}
