package node

import (
	"reflect"
	"slices"
	"testing"
	"unsafe"

	"angelus/api"
	"angelus/duty"
	"angelus/elect"
	"angelus/event"
	"angelus/flood"
	"angelus/frame"
	"angelus/leap"
	"angelus/source"
)

// spread tells numbers that look as if drawn, the same ones every time.
type spread uint64

func (s *spread) next() uint64 {
	*s = *s*6364136223846793005 + 1442695040888963407
	return uint64(*s >> 11)
}

// between is one of the numbers from low to high, both meant.
func (s *spread) between(low, high int) int {
	return low + int(s.next()%uint64(high-low+1))
}

// of is one of some numbers.
func (s *spread) of(numbers ...int) int {
	return numbers[s.between(0, len(numbers)-1)]
}

// some is how a node may be: synced by one entry, own in the steps 1, 5, 9 and so on.
func some() Setup {
	return Setup{Me: 5, Rules: flood.Rules{Rules: elect.Rules{Timeout: 9, Ignore: 2}, Need: 1, Drift: 5}, Plan: duty.Plan{Round: 4, Open: 2, Own: 1}, Limit: 2, Jitter: 3}
}

// gate is some, but a gate.
func gate() Setup {
	s := some()
	s.Gate = true
	return s
}

// root is a node that takes itself for the root in its first own step.
func root() Setup {
	s := some()
	s.Rules.Timeout, s.Limit = 1, 1
	return s
}

// patient is a node that waits long for a root, and for which what was asked is good long.
func patient() Setup {
	s := some()
	s.Rules.Timeout, s.Limit = 1000, 1000
	return s
}

// leaps are a table of layer 21; it fails, if there is none.
func leaps(t testing.TB, start, ahead, end int, list ...leap.Leap) *leap.Table {
	t.Helper()
	r, code := leap.Make(start, ahead, end, list...)
	if code != api.OK {
		t.Fatalf("%d, %d, %d, %v: %d", start, ahead, end, list, code)
	}
	return r
}

// both is a node, and a plain one; what is done is done to both, and fails, unless both answer, and tell of themselves, alike.
type both struct {
	t testing.TB
	n *Node
	p *plain
}

// made is a node that is off.
func made(t testing.TB, s Setup, r *leap.Table) both {
	t.Helper()
	n, code := New(s, r)
	if code != api.OK || n == nil {
		t.Fatalf("%v: %d", s, code)
	}
	b := both{t, n, &plain{s: s, leaps: r}}
	b.same()
	return b
}

// begun is a node that is on, in its first life.
func begun(t testing.TB, s Setup, r *leap.Table, raw uint32) both {
	t.Helper()
	b := made(t, s, r)
	b.on(raw)
	return b
}

// nobody is no node.
func nobody(t testing.TB) both {
	return both{t, nil, &plain{none: true}}
}

// same fails, unless both tell the same of themselves.
func (b both) same() {
	b.t.Helper()
	if s := b.n.Status(); s != b.p.status() {
		b.t.Fatalf("%v: Status %v; and not %v", b.p.s, s, b.p.status())
	}
	m, ok := b.n.Mark()
	if want, is := b.p.mark(); m != want || ok != is {
		b.t.Fatalf("%v: Mark %v, %v; and not %v, %v", b.p.s, m, ok, want, is)
	}
	a, code := b.n.Time()
	if want, is := b.p.time(); a != want || code != is {
		b.t.Fatalf("%v: Time %v, %d; and not %v, %d", b.p.s, a, code, want, is)
	}
	u, ticks, code := b.n.Utc()
	if want, of, is := b.p.utc(); u != want || ticks != of || code != is {
		b.t.Fatalf("%v: Utc %v, %d, %d; and not %v, %d, %d", b.p.s, u, ticks, code, want, of, is)
	}
	if is := b.n.Awake(); is != b.p.awake() {
		b.t.Fatalf("%v: at %d: Awake %v", b.p.s, b.p.now, is)
	}
	for _, ticks := range []int{least, 0, 989, 990, 999 - b.p.s.Rules.Drift, 1000 - b.p.s.Rules.Drift, 1000, 1000 + b.p.s.Rules.Drift, 1001 + b.p.s.Rules.Drift, 1010, 1011, greatest} {
		if is := b.n.Fits(ticks); is != b.p.fits(ticks) {
			b.t.Fatalf("%v: Fits(%d) %v", b.p.s, ticks, is)
		}
	}
}

// alike fails, unless both answered the same error; that is answered.
func (b both) alike(code, want api.Errno) api.Errno {
	b.t.Helper()
	if code != want {
		b.t.Fatalf("%v: %d; and not %d", b.p.s, code, want)
	}
	b.same()
	return code
}

func (b both) on(raw uint32) api.Errno {
	b.t.Helper()
	return b.alike(b.n.On(raw), b.p.begin(raw))
}

func (b both) off() api.Errno {
	b.t.Helper()
	return b.alike(b.n.Off(), b.p.off())
}

func (b both) goes(ticks int) api.Errno {
	b.t.Helper()
	return b.alike(b.n.Go(ticks), b.p.goes(ticks))
}

func (b both) fix(tai int) api.Errno {
	b.t.Helper()
	return b.alike(b.n.Fix(tai), b.p.fix(tai))
}

func (b both) tag(label string) (int, api.Errno) {
	b.t.Helper()
	id, code := b.n.Tag(label)
	want, is := b.p.tag(label)
	if id != want {
		b.t.Fatalf("%v: Tag(%q): %d; and not %d", b.p.s, label, id, want)
	}
	return id, b.alike(code, is)
}

func (b both) take() (event.Event, bool) {
	b.t.Helper()
	e, ok := b.n.Take()
	if want, is := b.p.take(); e != want || ok != is {
		b.t.Fatalf("%v: Take: %v, %v; and not %v, %v", b.p.s, e, ok, want, is)
	}
	b.same()
	return e, ok
}

// send is all that is sent, as bytes and as frames.
func (b both) send(step, jitter int) ([]frame.Frame, api.Errno) {
	b.t.Helper()
	list, code := b.n.Send(step, jitter)
	want, is := b.p.send(step, jitter)
	var out []frame.Frame
	for _, x := range list {
		f, code := frame.Decode(x...)
		if code != api.OK {
			b.t.Fatalf("%v: Send(%d, %d): %x: %d", b.p.s, step, jitter, x, code)
		}
		out = append(out, f)
	}
	if !slices.Equal(out, want) {
		b.t.Fatalf("%v: Send(%d, %d): %#v; and not %#v", b.p.s, step, jitter, out, want)
	}
	return out, b.alike(code, is)
}

// sends fails, unless just these frames are sent.
func (b both) sends(step, jitter int, want ...frame.Frame) {
	b.t.Helper()
	if out, code := b.send(step, jitter); code != api.OK || !slices.Equal(out, want) {
		b.t.Fatalf("%v: Send(%d, %d): %#v, %d; and not %#v", b.p.s, step, jitter, out, code, want)
	}
}

func (b both) hear(jitter int, x ...byte) api.Errno {
	b.t.Helper()
	was := slices.Clone(x)
	code := b.n.Hear(jitter, x...)
	if !slices.Equal(x, was) {
		b.t.Fatalf("%x is %x now", was, x)
	}
	// What was handed in is somebody else's again.
	clear(x)
	return b.alike(code, b.p.hear(jitter, was...))
}

// hears hears frames, each without a jitter; the answer is the last one's error.
func (b both) hears(list ...frame.Frame) api.Errno {
	b.t.Helper()
	code := api.OK
	for _, f := range list {
		code = b.hear(0, coded(b.t, f)...)
	}
	return code
}

// coded are a frame's bytes.
func coded(t testing.TB, f frame.Frame) []byte {
	t.Helper()
	x, code := frame.Encode(f)
	if code != api.OK {
		t.Fatalf("%#v: %d", f, code)
	}
	return x
}

// wind lets the clock show a time that no clock comes to within a test.
func (b both) wind(now int) {
	b.t.Helper()
	field := reflect.ValueOf(b.n.clock).Elem().FieldByName("now")
	if !field.IsValid() {
		b.t.Fatal("a clock is otherwise")
	}
	reflect.NewAt(field.Type(), unsafe.Pointer(field.UnsafeAddr())).Elem().SetInt(int64(now))
	b.p.now = now
	b.same()
}

// is fails, unless the node's time is just so.
func (b both) is(want source.Answer) {
	b.t.Helper()
	if a, code := b.n.Time(); a != want || code != api.OK {
		b.t.Fatalf("%v, %d; and not %v", a, code, want)
	}
}

// isNot fails, unless there is no time, for that error.
func (b both) isNot(want api.Errno) {
	b.t.Helper()
	if a, code := b.n.Time(); a != (source.Answer{}) || code != want {
		b.t.Fatalf("%v, %d; and not %d", a, code, want)
	}
}

// The frames that others send, of which the tests tell.
func word(seq uint16, time int) frame.Sync {
	return frame.Sync{From: 1, Root: 0, Boot: 3, Seq: seq, Hops: 0, Time: time}
}

func seeks() frame.Frame {
	return frame.Want{From: 7}
}

func pulse(sent int) frame.Frame {
	return frame.Pulse{From: 7, To: 5, Sent: sent}
}

// anchored ties the time 200 of the root 0, in its life 3, to a second.
func anchored(seq uint16, tai int) frame.Anchor {
	return frame.Anchor{From: 1, Seq: seq, Root: 0, Boot: 3, Global: 200, Tai: tai}
}

// replied answers the pulse that the node sent to node 2: its clock was 5000 ahead, and it goes by root 0, in its life 3, over one hop.
func (b both) replied(f frame.Pulse) frame.Reply {
	return frame.Reply{From: f.To, To: f.From, Sent: f.Sent, Got: f.Sent + 5000, Back: b.p.now + 5000, Root: 0, Boot: 3, Hops: 1}
}

// asks lets a node that isn't synced, and has no parent, go by node 2 in an own step, ask it, and have its reply, so that it knows the time by having asked: 5000 ahead, over two hops.
func (b both) asks(step int) {
	b.t.Helper()
	b.hears(frame.Find{From: 2, Level: 0})
	f := frame.Pulse{From: b.p.s.Me, To: 2, Sent: b.p.now}
	b.sends(step, 0, f)
	b.hears(b.replied(f))
	b.is(source.Answer{Time: b.p.now + 5000, Hops: 2, Whose: source.Whose{Root: 0, Boot: 3}, Way: source.Asked})
}
