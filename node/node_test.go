package node

import (
	"slices"
	"testing"

	"angelus/anchor"
	"angelus/api"
	"angelus/bound"
	"angelus/duty"
	"angelus/elect"
	"angelus/event"
	"angelus/flood"
	"angelus/frame"
	"angelus/leap"
	"angelus/source"
	"angelus/utc"
)

// P26.1: the chapter's example.
func TestTheChaptersExample(t *testing.T) {
	for own := range 4 {
		s := root()
		s.Me, s.Plan.Own = 0, own
		b := begun(t, s, nil, 7)
		for step := range own {
			b.sends(step, 0)
		}
		b.sends(own, 0, frame.Sync{Boot: 1, Seq: 1, Time: 7})
	}
}

// part is a number of a setup, and its ends.
type part struct {
	name      string
	set       func(s *Setup, n int)
	low, high int
}

// parts are the numbers of some, and their ends in that; the others stand such that only the one is at fault.
func parts() []part {
	return []part{
		{"Me", func(s *Setup, n int) { s.Me = n }, 0, 63},
		{"Timeout", func(s *Setup, n int) { s.Rules.Timeout, s.Limit = n, 1 }, 1, 1000},
		{"Ignore", func(s *Setup, n int) { s.Rules.Ignore = n }, 0, 1000},
		{"Need", func(s *Setup, n int) { s.Rules.Need = n }, 1, 8},
		{"Drift", func(s *Setup, n int) { s.Rules.Drift = n }, 0, 10},
		{"Round", func(s *Setup, n int) { s.Plan.Round, s.Plan.Open, s.Plan.Own = n, 1, 0 }, 1, 64},
		{"Open", func(s *Setup, n int) { s.Plan.Open = n }, 1, 4},
		{"Own", func(s *Setup, n int) { s.Plan.Own = n }, 0, 3},
		{"Limit", func(s *Setup, n int) { s.Limit = n }, 1, 9},
		{"Jitter", func(s *Setup, n int) { s.Jitter = n }, 0, 20},
	}
}

// faults are numbers beyond both ends: beside them, far, at those of all numbers, and such whose low bits would do.
func (x part) faults() []int {
	return []int{
		least, least + 1, least + x.low, least + x.high, -1 << 32, x.low - 1<<32, -65536 + x.low, -256 + x.low, -64 + x.low - 1, -x.high - 1, x.low - 2, x.low - 1,
		x.high + 1, x.high + 2, 256 + x.high, 65536 + x.low, 1<<32 + x.low, 1<<32 + x.high, greatest - 1, greatest,
	}
}

// P26.1
func TestGood(t *testing.T) {
	for _, base := range []Setup{some(), gate()} {
		for _, x := range parts() {
			for n := x.low; n <= x.high; n++ {
				s := base
				if x.set(&s, n); !s.Good() {
					t.Errorf("%s %d", x.name, n)
				}
			}
			for _, n := range x.faults() {
				s := base
				if x.set(&s, n); s.Good() {
					t.Errorf("%s %d", x.name, n)
				}
			}
		}
	}
	if (Setup{}).Good() || (Setup{Gate: true}).Good() {
		t.Error("an empty one")
	}
}

// P26.1: the Limit goes by the Rules' Timeout, whatever that is.
func TestGoodOfLimits(t *testing.T) {
	for _, timeout := range []int{1, 2, 3, 9, 63, 999, 1000} {
		s := some()
		s.Rules.Timeout = timeout
		for limit := -2; limit < 1005; limit++ {
			if s.Limit = limit; s.Good() != (limit >= 1 && limit <= timeout) {
				t.Errorf("%d of %d", limit, timeout)
			}
		}
		for _, limit := range []int{least, greatest, 1<<32 + 1, 1 - 1<<32} {
			if s.Limit = limit; s.Good() {
				t.Errorf("%d of %d", limit, timeout)
			}
		}
	}
}

// P26.1: asking changes nothing, and nobody else's setup.
func TestGoodOfTwo(t *testing.T) {
	s := some()
	if !s.Good() || s != some() || (Setup{Me: 64}).Good() || !s.Good() {
		t.Error(s)
	}
}

// P26.1
func TestNew(t *testing.T) {
	r := leaps(t, 730, 10, 30000)
	for _, of := range []*leap.Table{nil, r} {
		for _, x := range parts() {
			for _, n := range []int{x.low, x.high} {
				s := some()
				x.set(&s, n)
				b := made(t, s, of)
				if b.n.Status() != (Status{}) || b.on(0) != api.OK {
					t.Errorf("%s %d", x.name, n)
				}
			}
			for _, n := range x.faults() {
				s := some()
				x.set(&s, n)
				if is, code := New(s, of); is != nil || code != api.ErrArg {
					t.Errorf("%s %d: %v, %d", x.name, n, is, code)
				}
			}
		}
		if is, code := New(Setup{}, of); is != nil || code != api.ErrArg {
			t.Errorf("%v, %d", is, code)
		}
		// The table itself.
		if n, _ := New(some(), of); n.leaps != of {
			t.Error("another table")
		}
	}
	if r.Text() != leaps(t, 730, 10, 30000).Text() {
		t.Error(r.Text())
	}
}

// P26.1: what the caller does with a setup plays no part any more.
func TestTheSetupIsTaken(t *testing.T) {
	s := root()
	b := begun(t, s, nil, 7)
	s.Me, s.Rules.Timeout, s.Plan.Own, s.Jitter, s.Gate = 6, 1000, 2, 0, true
	b.sends(2, 0)
	b.sends(1, 3, frame.Sync{From: 5, Root: 5, Boot: 1, Seq: 1, Time: 10})
	if b.fix(1) != api.ErrNone {
		t.Error("it is a gate")
	}
}

// fresh is what a node tells of itself as its life begins.
func fresh(boot uint16, raw uint32) Status {
	return Status{On: true, Boot: boot, Now: int(raw), Root: -1, Level: -1, Parent: -1}
}

// lived is a node that has of everything: it asked, and knows the time by that alone; or by the flood; or is the root.
func lived(t testing.TB, way source.Way, raw uint32) both {
	t.Helper()
	s := patient()
	s.Gate, s.Rules.Need = true, 2
	if way == source.Own {
		s.Rules.Timeout, s.Limit = 3, 3
	}
	b := begun(t, s, leaps(t, 730, 10, 30000), raw)
	b.asks(1)
	b.hears(word(9, int(raw)+5000), anchored(4, 86400*730+10))
	b.goes(1000)
	if way == source.Flooded {
		b.hears(word(10, int(raw)+6000))
	}
	for step := 5; way == source.Own && !b.n.Status().Mine; step += 4 {
		b.send(step, 0)
	}
	if way == source.Asked {
		b.sends(5, 0, frame.Anchor{From: 5, Seq: 4, Root: 0, Boot: 3, Global: 200, Tai: 86400*730 + 10}, frame.Pulse{From: 5, To: 2, Sent: int(raw) + 1000})
		b.goes(1000)
	}
	b.tag("door")
	b.tag("bell")
	b.hears(seeks(), pulse(40))
	b.fix(86400*730 + 500)
	a, code := b.n.Time()
	if code != api.OK || a.Way != way || b.n.Status().Jobs != 3 || b.n.Status().Events != 2 || b.n.Status().Level != 1 {
		t.Fatalf("%v, %d: %v", a, code, b.n.Status())
	}
	return b
}

// ways are those in which a node knows the time.
func ways() []source.Way {
	return []source.Way{source.Own, source.Flooded, source.Asked}
}

// isNew fails, unless a node is as a new one is, in the life of a boot.
func isNew(t testing.TB, b both, boot uint16, raw uint32) {
	t.Helper()
	if s := b.n.Status(); s != fresh(boot, raw) {
		t.Fatalf("%v", s)
	}
	if m, ok := b.n.Mark(); m != (elect.Mark{}) || ok {
		t.Fatalf("%v, %v", m, ok)
	}
	b.isNot(api.ErrUnsync)
	if _, _, code := b.n.Utc(); code != api.ErrUnsync || !b.n.Awake() {
		t.Fatalf("%d, %v", code, b.n.Awake())
	}
	if e, ok := b.take(); ok {
		t.Fatalf("%v", e)
	}
	// No answer waits, and no parent is there.
	b.sends(1, 0, frame.Want{From: 5})
	// A mark that was heard in the last life is heard again.
	b.hears(word(9, int(raw)+5000))
	if s := b.n.Status(); s.Root != 0 || s.Entries != 1 || s.Synced {
		t.Fatalf("%v", s)
	}
	if b.goes(1000) != api.OK {
		t.Fatal("it doesn't go")
	}
	b.hears(word(10, int(raw)+6000))
	b.is(source.Answer{Time: int(raw) + 6000, Hops: 1, Whose: source.Whose{Root: 0, Boot: 3}, Way: source.Flooded})
	// No anchor, and the events' numbers from 1 on.
	if _, _, code := b.n.Utc(); code != api.ErrNone {
		t.Fatalf("%d", code)
	}
	if id, code := b.tag("door"); id != 1 || code != api.OK {
		t.Fatalf("%d, %d", id, code)
	}
	// An anchor that isn't newer than that of the last life is taken, and one of its own has the first number.
	if b.hears(anchored(4, 86400*730+10)) != api.OK || b.n.Status().Jobs != 1 {
		t.Fatalf("%v", b.n.Status())
	}
}

// P26.1: a new life, whether it was on or not, and whatever it had.
func TestOn(t *testing.T) {
	for _, way := range ways() {
		for _, raw := range []uint32{0, 1, 100, 1<<31 - 1, 1 << 31, 1<<32 - 1} {
			b := lived(t, way, 100)
			if b.on(raw) != api.OK {
				t.Fatal("it doesn't go on")
			}
			isNew(t, b, 2, raw)
			b = lived(t, way, 1<<32-1)
			b.off()
			if b.on(raw) != api.OK {
				t.Fatal("it doesn't go on")
			}
			isNew(t, b, 2, raw)
		}
	}
	for _, raw := range []uint32{0, 7, 1<<32 - 1} {
		s := patient()
		s.Rules.Need = 2
		isNew(t, begun(t, s, nil, raw), 1, raw)
	}
}

// P26.1: the anchor's number, and that of the root's words, begin anew.
func TestOnBeginsNumbersAnew(t *testing.T) {
	s := root()
	s.Gate = true
	b := made(t, s, nil)
	for boot := uint16(1); boot < 5; boot++ {
		b.on(9)
		for seq := uint16(1); seq < 4; seq++ {
			b.sends(1, 0, frame.Sync{From: 5, Root: 5, Boot: boot, Seq: seq, Time: 9})
		}
		b.fix(77)
		b.sends(1, 0, frame.Sync{From: 5, Root: 5, Boot: boot, Seq: 4, Time: 9}, frame.Anchor{From: 5, Seq: 1, Root: 5, Boot: boot, Global: 9, Tai: 77})
		for id := 1; id < 4; id++ {
			if is, code := b.tag("x"); is != id || code != api.OK {
				t.Fatalf("%d, %d", is, code)
			}
		}
	}
}

// P26.1: whom it asked in vain, and for how long it rests, is forgotten.
func TestOnForgetsRests(t *testing.T) {
	for rounds := range 12 {
		b := begun(t, patient(), nil, 9)
		b.hears(frame.Find{From: 2, Level: 0})
		for step := range rounds {
			b.send(4*step+1, 0)
		}
		b.on(9)
		b.hears(frame.Find{From: 2, Level: 0})
		for step, asks := range []bool{true, false, false, true, false, false, false, false, true} {
			if asks {
				b.sends(4*step+1, 0, frame.Pulse{From: 5, To: 2, Sent: 9})
			} else {
				b.sends(4*step+1, 0)
			}
		}
	}
}

// P26.1: how long it waited for a root, and hears no other one, is forgotten.
func TestOnForgetsRounds(t *testing.T) {
	s := some()
	s.Rules.Timeout, s.Rules.Ignore = 3, 2
	for rounds := range 8 {
		b := begun(t, s, nil, 9)
		for range rounds {
			b.send(1, 0)
		}
		b.on(9)
		b.sends(1, 0, frame.Want{From: 5})
		b.sends(1, 0, frame.Want{From: 5})
		b.sends(1, 0, frame.Sync{From: 5, Root: 5, Boot: 2, Seq: 1, Time: 9})
		b.hears(word(1, 700))
		if !b.n.Status().Mine {
			t.Fatal("it hears somebody")
		}
	}
}

// P26.1: the boot goes round 2^16, and is told in what it sends.
func TestTheBootGoesRound(t *testing.T) {
	s := root()
	b := made(t, s, nil)
	for i := 1; i <= 65540; i++ {
		if i%3 == 0 {
			b.n.Off()
			b.p.off()
		}
		if b.n.On(5) != api.OK || b.p.begin(5) != api.OK || b.n.Status() != fresh(uint16(i), 5) {
			t.Fatalf("%d: %v", i, b.n.Status())
		}
		if i > 65530 || i < 5 {
			b.sends(1, 0, frame.Sync{From: 5, Root: 5, Boot: uint16(i), Seq: 1, Time: 5})
			b.is(source.Answer{Time: 5, Whose: source.Whose{Root: 5, Boot: uint16(i)}, Way: source.Own})
		}
	}
	if b.n.Status().Boot != 4 {
		t.Error(b.n.Status())
	}
}

// P26.1
func TestOff(t *testing.T) {
	for _, way := range ways() {
		b := lived(t, way, 100)
		if b.off() != api.OK || b.n.Status() != (Status{Boot: 1}) {
			t.Fatalf("%v", b.n.Status())
		}
		for range 3 {
			if b.off() != api.ErrOff || b.n.Status() != (Status{Boot: 1}) {
				t.Fatalf("%v", b.n.Status())
			}
		}
	}
	b := made(t, some(), nil)
	if b.off() != api.ErrOff || b.n.Status() != (Status{}) {
		t.Error(b.n.Status())
	}
	for boot := uint16(1); boot < 9; boot++ {
		if b.on(0) != api.OK || b.off() != api.OK || b.n.Status() != (Status{Boot: boot}) {
			t.Error(b.n.Status())
		}
	}
}

// someBytes are such of frames, and of each of layer 5's errors.
func someBytes(t testing.TB) [][]byte {
	t.Helper()
	torn := coded(t, seeks())
	torn[2] ^= 1
	return [][]byte{nil, {}, {0}, {1, 2, 3}, {7, 5, 0, 0}, torn, make([]byte, 64), make([]byte, 65), coded(t, seeks()), coded(t, word(1, 500)), coded(t, pulse(9)), coded(t, frame.Want{From: 5})}
}

// silent fails, unless each call of a node that doesn't live answers just that error, whatever else is wrong with it.
func silent(t testing.TB, b both, code api.Errno) {
	t.Helper()
	was := b.n.Status()
	for _, ticks := range []int{least, -1, 0, 994, 995, 1000, 1005, 1006, greatest} {
		if b.goes(ticks) != code {
			t.Fatalf("Go(%d)", ticks)
		}
	}
	for _, jitter := range []int{least, -4, -3, 0, 3, 4, greatest} {
		for _, step := range []int{least, -3, 0, 1, 2, 5, greatest} {
			if out, is := b.send(step, jitter); len(out) != 0 || is != code {
				t.Fatalf("Send(%d, %d): %v, %d", step, jitter, out, is)
			}
		}
		for _, x := range someBytes(t) {
			if b.hear(jitter, x...) != code {
				t.Fatalf("Hear(%d, %x)", jitter, x)
			}
		}
	}
	for _, label := range []string{"door", "Door", ""} {
		if id, is := b.tag(label); id != 0 || is != code {
			t.Fatalf("%d, %d", id, is)
		}
	}
	for _, tai := range []int{least, -1, 0, 500, top, top + 1, greatest} {
		if b.fix(tai) != code {
			t.Fatalf("Fix(%d)", tai)
		}
	}
	b.isNot(code)
	if u, k, is := b.n.Utc(); u != (utc.Utc{}) || k != 0 || is != code {
		t.Fatalf("%v, %d, %d", u, k, is)
	}
	if e, ok := b.take(); e != (event.Event{}) || ok {
		t.Fatalf("%v, %v", e, ok)
	}
	if m, ok := b.n.Mark(); m != (elect.Mark{}) || ok || b.n.Awake() {
		t.Fatalf("%v, %v", m, ok)
	}
	if b.off() != code || b.n.Status() != was {
		t.Fatalf("%v; and not %v", b.n.Status(), was)
	}
}

// P26.2: one that is off, gates too, ahead of its first life and behind others; and P26.1: no node.
func TestNodesThatAreOff(t *testing.T) {
	for _, s := range []Setup{some(), gate(), root(), patient()} {
		silent(t, made(t, s, nil), api.ErrOff)
	}
	for _, way := range ways() {
		b := lived(t, way, 100)
		b.off()
		silent(t, b, api.ErrOff)
		if b.n.Status() != (Status{Boot: 1}) {
			t.Error(b.n.Status())
		}
		// Of all that came meanwhile nothing is there in the next life.
		b.on(100)
		isNew(t, b, 2, 100)
	}
	b := nobody(t)
	silent(t, b, api.ErrNil)
	if b.on(0) != api.ErrNil || b.n.Fits(1000) || b.n.Status() != (Status{}) {
		t.Error("no node")
	}
}

// P26.1
func TestFitsAndGo(t *testing.T) {
	for drift := range 11 {
		s := some()
		s.Rules.Drift = drift
		b := made(t, s, nil)
		b.on(50)
		now := 50
		for _, ticks := range []int{least, least + 1, least + 1000, -1000, -1, 0, 1, 999 - drift, 1000 - drift, 999, 1000, 1001, 1000 + drift, 1001 + drift, 989, 990, 1010, 1011, 2000, 1000 + 65536, 1000 + 1<<32, 1000 - 1<<32, greatest - 1, greatest} {
			fits := ticks >= 1000-drift && ticks <= 1000+drift
			want := api.ErrArg
			if fits {
				want = api.OK
				now += ticks
			}
			if b.n.Fits(ticks) != fits || b.goes(ticks) != want || b.n.Status().Now != now {
				t.Errorf("%d, %d: %v", drift, ticks, b.n.Status())
			}
			b.off()
			if b.n.Fits(ticks) != fits || b.goes(ticks) != api.ErrOff {
				t.Errorf("%d, %d: it is off", drift, ticks)
			}
			b.on(uint32(now))
		}
	}
	var n *Node
	for _, ticks := range []int{least, 0, 990, 1000, 1010, greatest} {
		if n.Fits(ticks) || n.Go(ticks) != api.ErrNil {
			t.Error("no node")
		}
	}
}

// P26.1: the clock's time goes on, where its counter goes round, up to the greatest one.
func TestGoFar(t *testing.T) {
	b := begun(t, some(), nil, 1<<32-1)
	for _, x := range [][2]int{{1000, 1<<32 + 999}, {995, 1<<32 + 1994}, {1005, 1<<32 + 2999}} {
		if b.goes(x[0]) != api.OK || b.n.Status().Now != x[1] {
			t.Error(b.n.Status())
		}
	}
	for _, x := range []struct{ now, ticks, at int }{{top - 1000, 1000, top}, {top - 995, 995, top}, {top - 2500, 1005, top - 1495}} {
		b.wind(x.now)
		if b.goes(x.ticks) != api.OK || b.n.Status().Now != x.at {
			t.Error(b.n.Status())
		}
	}
	for _, x := range []struct {
		now, ticks int
		code       api.Errno
	}{{top - 999, 1000, api.ErrOver}, {top - 994, 995, api.ErrOver}, {top, 1000, api.ErrOver}, {top, 1006, api.ErrArg}, {top, 994, api.ErrArg}, {top, 0, api.ErrArg}, {top, greatest, api.ErrArg}} {
		b.wind(x.now)
		if b.goes(x.ticks) != x.code || b.n.Status().Now != x.now {
			t.Error(x, b.n.Status())
		}
	}
	b.off()
	if b.goes(1000) != api.ErrOff {
		t.Error("it is off")
	}
}

// over is a setup in which a stamp is right, and clocks too, so that over one hop the guard is 8.
func over() Setup {
	s := some()
	s.Plan, s.Rules.Drift, s.Jitter = duty.Plan{Round: 4, Open: 1}, 0, 0
	return s
}

// told is a node that is synced over so many hops, and tells just that time.
func told(t testing.TB, s Setup, time, hops int) both {
	t.Helper()
	b := begun(t, s, nil, 0)
	b.hears(frame.Sync{From: 1, Root: 0, Boot: 3, Seq: 9, Hops: hops - 1, Time: time})
	b.is(source.Answer{Time: time, Hops: hops, Whose: source.Whose{Root: 0, Boot: 3}, Way: source.Flooded})
	return b
}

// P26.1: told by hand: a root's guard is 0, over one hop 8, over three 24; with a jitter of 2 it is 16 over one.
func TestAwakeToldByHand(t *testing.T) {
	wrong := over()
	wrong.Jitter = 2
	for _, x := range []struct {
		s          Setup
		hops       int
		last, next int
	}{{over(), 1, 1007, 3992}, {over(), 2, 1015, 3984}, {over(), 3, 1023, 3976}, {over(), 63, 1503, 3496}, {wrong, 1, 1015, 3984}, {wrong, 2, 1031, 3968}} {
		for _, round := range []int{0, 4000, 4000 * 1000000} {
			for phase, awake := range map[int]bool{0: true, 1: true, 999: true, x.last: true, x.last + 1: false, 2000: false, 3000: false, x.next - 1: false, x.next: true, 3999: true} {
				if b := told(t, x.s, round+phase, x.hops); b.n.Awake() != awake {
					t.Errorf("%d hops, %d: %v", x.hops, round+phase, !awake)
				}
			}
		}
	}
	s := root()
	s.Plan = over().Plan
	for raw, awake := range map[uint32]bool{0: true, 999: true, 1000: false, 3999: false, 4000: true, 4999: true, 5000: false, 1 << 31: false, 1<<31 + 351: false, 1<<31 + 352: true} {
		b := begun(t, s, nil, raw)
		b.sends(0, 0, frame.Sync{From: 5, Root: 5, Boot: 1, Seq: 1, Time: int(raw)})
		if b.n.Awake() != awake {
			t.Errorf("root, %d: %v", raw, !awake)
		}
	}
}

// P26.1: the guard's terms are those of the Rules, the Plan and the Jitter, each of them.
func TestAwakeWithGuards(t *testing.T) {
	for _, timeout := range []int{1, 2, 9, 40} {
		for _, drift := range []int{0, 1, 10} {
			for _, jitter := range []int{0, 1, 20} {
				for _, plan := range []duty.Plan{{Round: 1, Open: 1}, {Round: 16, Open: 3, Own: 5}, {Round: 64, Open: 1}, {Round: 64, Open: 30, Own: 63}} {
					for _, hops := range []int{1, 2, 9, 63} {
						s := some()
						s.Rules.Timeout, s.Limit, s.Rules.Drift, s.Jitter, s.Plan = timeout, 1, drift, jitter, plan
						guard := bound.Of(s.Rules, plan, jitter).Error(hops)
						ticks := 1000 * plan.Round
						for _, phase := range []int{0, 1, 1000 * plan.Open, 1000*plan.Open + guard, ticks - guard, ticks} {
							for off := -1; off <= 1; off++ {
								at := 3*ticks + ((phase+off)%ticks+ticks)%ticks
								b := told(t, s, at, hops)
								if want := at%ticks < 1000*plan.Open+guard || at%ticks >= ticks-guard; b.n.Awake() != want {
									t.Errorf("%v, %d hops, %d: %v", s, hops, at, !want)
								}
							}
						}
					}
				}
			}
		}
	}
}

// P26.1: who isn't synced is awake, even where it knows the time by having asked, or the time it tells can't be.
func TestAwakeWithoutATime(t *testing.T) {
	s := patient()
	s.Plan, s.Rules.Drift, s.Jitter = duty.Plan{Round: 64, Open: 1, Own: 1}, 0, 0
	for raw := uint32(0); raw < 64000; raw += 500 {
		b := begun(t, s, nil, raw)
		if !b.n.Awake() {
			t.Errorf("%d", raw)
		}
		b.asks(1)
		if !b.n.Awake() {
			t.Errorf("%d", raw)
		}
	}
	b := told(t, s, top, 1)
	sleeps := 0
	for range 100 {
		b.goes(1000)
		b.isNot(api.ErrOver)
		if !b.n.Awake() {
			t.Error("it sleeps")
		}
	}
	b = told(t, s, top-100000, 1)
	for range 100 {
		b.goes(1000)
		if !b.n.Awake() {
			sleeps++
		}
	}
	if sleeps == 0 {
		t.Error("it never sleeps")
	}
	b.off()
	if b.n.Awake() {
		t.Error("it is off")
	}
}

// P26.1: on each way, and on none.
func TestTime(t *testing.T) {
	b := begun(t, some(), nil, 100)
	b.isNot(api.ErrUnsync)
	b.asks(1)
	b.goes(1000)
	w := source.Whose{Root: 0, Boot: 3}
	b.is(source.Answer{Time: 6100, Hops: 2, Whose: w, Way: source.Asked})
	// The flood goes ahead of what was asked.
	b.hears(frame.Sync{From: 1, Root: 1, Boot: 65535, Seq: 9, Hops: 4, Time: 77000})
	b.is(source.Answer{Time: 77000, Hops: 5, Whose: source.Whose{Root: 1, Boot: 65535}, Way: source.Flooded})
	b.goes(1000)
	b.is(source.Answer{Time: 78000, Hops: 5, Whose: source.Whose{Root: 1, Boot: 65535}, Way: source.Flooded})
	for range 9 {
		b.send(5, 0)
	}
	b.is(source.Answer{Time: 2100, Whose: source.Whose{Root: 5, Boot: 1}, Way: source.Own})
	b.goes(995)
	b.is(source.Answer{Time: 3095, Whose: source.Whose{Root: 5, Boot: 1}, Way: source.Own})
	b.off()
	b.isNot(api.ErrOff)
}

// P26.1: what was asked is good for as many own steps as the Limit tells.
func TestTimeThatWasAsked(t *testing.T) {
	for _, limit := range []int{1, 2, 3, 7, 100} {
		s := patient()
		s.Limit = limit
		b := begun(t, s, nil, 100)
		b.asks(1)
		for range limit {
			if _, code := b.n.Time(); code != api.OK {
				t.Fatalf("%d: %d", limit, code)
			}
			// Steps that aren't its own, and clocks that go on, play no part.
			for _, step := range []int{-3, 0, 2, 3, 4} {
				b.sends(step, 0)
				b.goes(1000)
			}
			b.send(5, 0)
		}
		b.isNot(api.ErrUnsync)
	}
}

// P26.1: the time that was asked may be none: below 0, and above the greatest.
func TestTimeThatCantBe(t *testing.T) {
	b := begun(t, patient(), nil, 4000)
	b.hears(frame.Find{From: 2, Level: 0})
	b.sends(1, 0, frame.Pulse{From: 5, To: 2, Sent: 4000})
	b.hears(frame.Reply{From: 2, To: 5, Sent: 4000, Got: top, Back: top, Root: 1, Boot: 7, Hops: 62})
	b.is(source.Answer{Time: top, Hops: 63, Whose: source.Whose{Root: 1, Boot: 7}, Way: source.Asked})
	b.goes(1000)
	b.isNot(api.ErrOver)
	if u, k, code := b.n.Utc(); u != (utc.Utc{}) || k != 0 || code != api.ErrOver {
		t.Errorf("%v, %d, %d", u, k, code)
	}
	if id, code := b.tag("door"); id != 0 || code != api.ErrOver {
		t.Errorf("%d, %d", id, code)
	}
}

// P26.1
func TestTagAndTake(t *testing.T) {
	for _, way := range ways() {
		b := lived(t, way, 100)
		for _, label := range []string{"", "Door", "door ", "thirteen_long", "dóor"} {
			if id, code := b.tag(label); id != 0 || code != api.ErrArg {
				t.Errorf("%q: %d, %d", label, id, code)
			}
		}
		when, _ := b.n.Time()
		for id := 3; id <= 16; id++ {
			if is, code := b.tag("twelve_chars"); is != id || code != api.OK {
				t.Errorf("%d, %d", is, code)
			}
			b.goes(1000)
		}
		for _, label := range []string{"door", "x"} {
			if id, code := b.tag(label); id != 0 || code != api.ErrFull {
				t.Errorf("%d, %d", id, code)
			}
		}
		if id, code := b.tag("Door"); id != 0 || code != api.ErrArg {
			t.Errorf("%d, %d", id, code)
		}
		if b.n.Status().Events != 16 {
			t.Error(b.n.Status())
		}
		for id := 1; id <= 16; id++ {
			e, ok := b.take()
			if !ok || e.ID != id {
				t.Fatalf("%v, %v", e, ok)
			}
			if want := (event.Event{ID: 3, Label: "twelve_chars", Local: b.n.Status().Now - 14000, When: when}); id == 3 && e != want {
				t.Errorf("%v; and not %v", e, want)
			}
			if b.n.Status().Events != 16-id {
				t.Error(b.n.Status())
			}
		}
		if e, ok := b.take(); e != (event.Event{}) || ok {
			t.Errorf("%v", e)
		}
		if id, code := b.tag("door"); id != 17 || code != api.OK {
			t.Errorf("%d, %d", id, code)
		}
	}
}

// P26.1: Time's errors, ahead of the log's.
func TestTagWithoutATime(t *testing.T) {
	b := begun(t, some(), nil, 100)
	for _, label := range []string{"door", "Door", ""} {
		if id, code := b.tag(label); id != 0 || code != api.ErrUnsync {
			t.Errorf("%d, %d", id, code)
		}
	}
	b = told(t, some(), top, 1)
	for id := 1; id <= 16; id++ {
		if is, code := b.tag("door"); is != id || code != api.OK {
			t.Errorf("%d, %d", is, code)
		}
	}
	b.goes(1000)
	for _, label := range []string{"door", "Door"} {
		if id, code := b.tag(label); id != 0 || code != api.ErrOver {
			t.Errorf("%d, %d", id, code)
		}
	}
	// What was tagged is taken, whether the time is known or not.
	if e, ok := b.take(); !ok || e.ID != 1 || e.When.Time != top {
		t.Errorf("%v", e)
	}
	b.off()
	if e, ok := b.take(); ok {
		t.Errorf("%v", e)
	}
}

// P26.1: each error, in its order; nothing is made, and nothing waits.
func TestFixOfSuchAsCant(t *testing.T) {
	seconds := []int{least, -1, 0, 500, top, top + 1, greatest}
	for _, tai := range seconds {
		b := begun(t, some(), nil, 100)
		if b.fix(tai) != api.ErrNone {
			t.Error("it is no gate")
		}
		b.hears(word(1, 500))
		if b.fix(tai) != api.ErrNone || b.n.Status().Jobs != 0 {
			t.Error("it is no gate")
		}
		b = begun(t, gate(), nil, 100)
		if b.fix(tai) != api.ErrUnsync {
			t.Error("it doesn't know the time")
		}
		b.hears(word(1, top))
		b.goes(1000)
		if b.fix(tai) != api.ErrOver || b.n.Status().Jobs != 0 {
			t.Error("that is no time")
		}
	}
	b := begun(t, gate(), leaps(t, 730, 10, 30000), 100)
	b.hears(word(1, 500))
	for _, tai := range []int{least, -1, top + 1, greatest} {
		if b.fix(tai) != api.ErrArg || b.n.Status().Jobs != 0 {
			t.Error("that is no second")
		}
	}
	if _, _, code := b.n.Utc(); code != api.ErrNone {
		t.Error(code)
	}
	for range 8 {
		b.hears(seeks())
	}
	if b.fix(-1) != api.ErrArg {
		t.Error("that is no second")
	}
	if _, _, code := b.n.Utc(); code != api.ErrNone {
		t.Error(code)
	}
}

// P26.1
func TestFix(t *testing.T) {
	r := leaps(t, 0, 0, 30000)
	for _, way := range ways() {
		for _, tai := range []int{0, 86400 * 5, top} {
			b := lived(t, way, 100)
			b.n.leaps, b.p.leaps = r, r
			a, _ := b.n.Time()
			if b.fix(tai) != api.OK || b.n.Status().Jobs != 3 {
				t.Fatal(b.n.Status())
			}
			if is, ok := b.n.book.Has(); !ok || is.From != 5 || is.Seq != 6 {
				t.Errorf("%v, %v", is, ok)
			}
			u, k, code := b.n.Utc()
			if want, is := utc.Of(r, tai); u != want || k != 0 || code != is {
				t.Errorf("%v, %d, %d", u, k, code)
			}
			out, _ := b.send(1, 0)
			for len(out) > 0 && out[len(out)-1].Sender() == 5 && b.n.Status().Jobs > 0 {
				more, _ := b.send(1, 0)
				out = append(out, more...)
			}
			// The second one in the book's row of this life: what was heard was 4, what was made then 5.
			want := frame.Anchor{From: 5, Seq: 6, Root: a.Whose.Root, Boot: a.Whose.Boot, Global: a.Time, Tai: tai}
			if !slices.Contains(out, frame.Frame(want)) {
				t.Errorf("%v: %v", want, out)
			}
		}
	}
}

// P26.1: where there is no room the book has the anchor all the same; where one waits none more does.
func TestFixWithoutRoom(t *testing.T) {
	b := begun(t, gate(), leaps(t, 730, 10, 30000), 100)
	b.hears(word(1, 500))
	for range 8 {
		b.hears(seeks())
	}
	for seconds := range 3 {
		if b.fix(86400*730+10+seconds) != api.ErrFull || b.n.Status().Jobs != 8 {
			t.Fatal(b.n.Status())
		}
		if u, k, code := b.n.Utc(); u.Text() != "1972-01-01T00:00:0"+string(rune('0'+seconds))+"Z" || k != 0 || code != api.OK {
			t.Errorf("%v, %d, %d", u, k, code)
		}
	}
	f := frame.Find{From: 5}
	b.sends(1, 0, frame.Sync{From: 5, Root: 0, Boot: 3, Seq: 1, Hops: 1, Time: 500}, f, f)
	if b.fix(86400*730+20) != api.OK || b.n.Status().Jobs != 7 {
		t.Error(b.n.Status())
	}
	b.hears(seeks())
	// One waits.
	if b.fix(86400*730+30) != api.OK || b.n.Status().Jobs != 8 {
		t.Error(b.n.Status())
	}
	b.sends(1, 0, frame.Sync{From: 5, Root: 0, Boot: 3, Seq: 1, Hops: 1, Time: 500}, f, f)
	b.sends(1, 0, frame.Sync{From: 5, Root: 0, Boot: 3, Seq: 1, Hops: 1, Time: 500}, f, f)
	b.sends(1, 0, frame.Sync{From: 5, Root: 0, Boot: 3, Seq: 1, Hops: 1, Time: 500}, f, f)
	b.sends(1, 0, frame.Sync{From: 5, Root: 0, Boot: 3, Seq: 1, Hops: 1, Time: 500}, frame.Anchor{From: 5, Seq: 5, Root: 0, Boot: 3, Global: 500, Tai: 86400*730 + 30}, f)
	b.sends(1, 0, frame.Sync{From: 5, Root: 0, Boot: 3, Seq: 1, Hops: 1, Time: 500})
}

// P26.1: each of layer 23's errors that there can be, and of layer 22's, in their order.
func TestUtc(t *testing.T) {
	isUtc := func(b both, text string, ticks int, want api.Errno) {
		t.Helper()
		u, k, code := b.n.Utc()
		if u.Text() != text || k != ticks || code != want {
			t.Errorf("%q, %d, %d; and not %q, %d, %d", u.Text(), k, code, text, ticks, want)
		}
	}
	r := leaps(t, 730, 10, 731)
	for _, x := range []*leap.Table{nil, r} {
		b := begun(t, gate(), x, 100)
		isUtc(b, "", 0, api.ErrUnsync)
		b.hears(word(1, 6200))
		isUtc(b, "", 0, api.ErrNone)
		b.hears(frame.Anchor{From: 1, Seq: 4, Root: 0, Boot: 2, Global: 200, Tai: 86400*730 + 10})
		isUtc(b, "", 0, api.ErrUnsync)
		b.hears(frame.Anchor{From: 1, Seq: 5, Root: 1, Boot: 3, Global: 200, Tai: 86400*730 + 10})
		isUtc(b, "", 0, api.ErrUnsync)
		b.hears(anchored(6, 86400*730+10))
		if x == nil {
			isUtc(b, "", 0, api.ErrNil)
		} else {
			isUtc(b, "1972-01-01T00:00:06Z", 0, api.OK)
			b.goes(1005)
			isUtc(b, "1972-01-01T00:00:07Z", 5, api.OK)
		}
		b.hears(anchored(7, 86400*731+9))
		if x == nil {
			isUtc(b, "", 0, api.ErrNil)
		} else {
			isUtc(b, "", 0, api.ErrPast)
		}
		b.off()
		isUtc(b, "", 0, api.ErrOff)
	}
	// With a second more, and told of what was asked.
	b := begun(t, patient(), leaps(t, 17000, 36, 18000, leap.Leap{Day: 17166, Step: 1}), 100)
	b.asks(1)
	b.hears(frame.Anchor{From: 1, Seq: 5, Root: 0, Boot: 3, Global: 5100, Tai: 86400*17167 + 35})
	isUtc(b, "2016-12-31T23:59:59Z", 0, api.OK)
	b.goes(1001)
	isUtc(b, "2016-12-31T23:59:60Z", 1, api.OK)
	b.goes(998)
	isUtc(b, "2016-12-31T23:59:60Z", 999, api.OK)
	b.goes(1001)
	isUtc(b, "2017-01-01T00:00:01Z", 0, api.OK)
}

// P26.1: by the table itself, with which it was made, and by a book of its own.
func TestUtcIsLayer23s(t *testing.T) {
	var s spread = 26
	r := leaps(t, 0, 0, 30000, leap.Leap{Day: 100, Step: 1}, leap.Leap{Day: 20000, Step: -1})
	for range 300 {
		b := begun(t, some(), r, 0)
		at := s.between(0, 1<<44)
		b.hears(frame.Sync{From: 1, Root: 3, Boot: 9, Seq: 1, Time: at})
		a := frame.Anchor{From: 1, Seq: 5, Root: 3, Boot: 9, Global: s.between(0, 1<<44), Tai: 86400 * s.between(0, 30000)}
		b.hears(a)
		var book anchor.Book
		book.Hear(a)
		u, k, code := b.n.Utc()
		if want, of, is := book.Utc(r, source.Whose{Root: 3, Boot: 9}, at); u != want || k != of || code != is {
			t.Fatalf("%v, %d, %d; and not %v, %d, %d", u, k, code, want, of, is)
		}
	}
}

// P26.1: in each state.
func TestStatusAndMark(t *testing.T) {
	is := func(b both, s Status, m elect.Mark, ok bool) {
		t.Helper()
		mark, has := b.n.Mark()
		if b.n.Status() != s || mark != m || has != ok {
			t.Errorf("%v, %v, %v; and not %v, %v, %v", b.n.Status(), mark, has, s, m, ok)
		}
	}
	s := some()
	s.Rules.Need, s.Rules.Timeout = 3, 4
	b := made(t, s, nil)
	is(b, Status{}, elect.Mark{}, false)
	b.on(100)
	is(b, fresh(1, 100), elect.Mark{}, false)
	b.hears(frame.Find{From: 9, Level: 6})
	is(b, Status{On: true, Boot: 1, Now: 100, Root: -1, Level: 7, Parent: 9}, elect.Mark{}, false)
	b.sends(1, 0, frame.Pulse{From: 5, To: 9, Sent: 100})
	is(b, Status{On: true, Boot: 1, Now: 100, Root: -1, Level: 7, Parent: 9, Waits: true}, elect.Mark{}, false)
	b.hears(frame.Sync{From: 1, Root: 3, Boot: 65535, Seq: 40000, Time: 5})
	is(b, Status{On: true, Boot: 1, Now: 100, Root: 3, Entries: 1, Level: 7, Parent: 9, Waits: true}, elect.Mark{Boot: 65535, Seq: 40000}, true)
	b.goes(1000)
	b.hears(frame.Sync{From: 1, Root: 3, Boot: 65535, Seq: 40001, Time: 1005})
	b.goes(1000)
	b.hears(frame.Sync{From: 1, Root: 3, Boot: 65535, Seq: 40003, Time: 2005})
	is(b, Status{On: true, Boot: 1, Now: 2100, Root: 3, Synced: true, Entries: 3, Level: 7, Parent: 9, Waits: true}, elect.Mark{Boot: 65535, Seq: 40003}, true)
	b.hears(seeks(), seeks())
	b.tag("door")
	b.hears(frame.Sync{From: 1, Root: 3, Boot: 0, Seq: 0, Time: 5})
	is(b, Status{On: true, Boot: 1, Now: 2100, Root: 3, Entries: 1, Level: 7, Parent: 9, Waits: true, Jobs: 2, Events: 1}, elect.Mark{}, true)
	b.off()
	is(b, Status{Boot: 1}, elect.Mark{}, false)
	b.on(7)
	is(b, fresh(2, 7), elect.Mark{}, false)
	for range 3 {
		b.sends(1, 0, frame.Want{From: 5})
	}
	b.sends(1, 0, frame.Sync{From: 5, Root: 5, Boot: 2, Seq: 1, Time: 7})
	is(b, Status{On: true, Boot: 2, Now: 7, Root: 5, Mine: true, Synced: true, Level: -1, Parent: -1}, elect.Mark{Boot: 2, Seq: 1}, true)
	b.off()
	is(b, Status{Boot: 2}, elect.Mark{}, false)
	is(nobody(t), Status{}, elect.Mark{}, false)
}

// P26.1: entries are told up to eight.
func TestStatusOfEntries(t *testing.T) {
	s := some()
	s.Rules.Need = 8
	b := begun(t, s, nil, 100)
	for i := 1; i < 20; i++ {
		b.goes(1000)
		b.hears(word(uint16(i), 1000*i+i%3))
		if is := b.n.Status(); is.Entries != min(i, 8) || is.Synced != (i >= 8) {
			t.Errorf("%d: %v", i, is)
		}
	}
}

// P26.1: a root whose number has gone round tells its boot, and no word, as layer 15 does.
func TestTheMarkOfARootGoesRound(t *testing.T) {
	b := begun(t, root(), nil, 100)
	for i := 1; i <= 65540; i++ {
		list, code := b.n.Send(1, 0)
		if _, is := b.p.send(1, 0); code != is || len(list) != 1 {
			t.Fatalf("%d: %v, %d", i, list, code)
		}
		m, ok := b.n.Mark()
		if m != (elect.Mark{Boot: 1, Seq: uint16(i)}) || ok != (uint16(i) != 0) {
			t.Fatalf("%d: %v, %v", i, m, ok)
		}
		if i > 65530 {
			b.same()
		}
	}
}

// P26.1: that of rules which embed layer 15's.
func TestRulesOfTheFlood(t *testing.T) {
	s := some()
	s.Rules = flood.Rules{Rules: elect.Rules{Timeout: 2, Ignore: 3}, Need: 2, Drift: 10}
	b := begun(t, s, nil, 100)
	b.sends(1, 0, frame.Want{From: 5})
	b.sends(1, 0, frame.Sync{From: 5, Root: 5, Boot: 1, Seq: 1, Time: 100})
	for seq := range 3 {
		b.hears(word(9, 500))
		if !b.n.Status().Mine {
			t.Fatal(b.n.Status())
		}
		b.sends(1, 0, frame.Sync{From: 5, Root: 5, Boot: 1, Seq: uint16(seq) + 2, Time: 100})
	}
	b.hears(word(9, 500))
	if is := b.n.Status(); is.Mine || is.Root != 0 || is.Synced {
		t.Fatal(is)
	}
	if b.goes(1010) != api.OK {
		t.Error("another drift")
	}
	b.hears(word(10, 1500))
	if is := b.n.Status(); !is.Synced {
		t.Fatal(is)
	}
}
