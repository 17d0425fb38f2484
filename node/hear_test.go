package node

import (
	"slices"
	"testing"

	"angelus/api"
	"angelus/elect"
	"angelus/flood"
	"angelus/frame"
	"angelus/source"
)

// past makes a node that has had the same each time.
type past func() both

// pasts are nodes in many states, each made anew.
func pasts(t testing.TB) map[string]past {
	t.Helper()
	list := map[string]past{
		"new":   func() both { return begun(t, patient(), nil, 100) },
		"root":  func() both { b := begun(t, root(), nil, 100); b.send(1, 0); return b },
		"found": func() both { b := begun(t, patient(), nil, 100); b.hears(frame.Find{From: 2, Level: 4}); return b },
		"waits": func() both {
			b := begun(t, patient(), nil, 100)
			b.hears(frame.Find{From: 2, Level: 4})
			b.send(1, 0)
			return b
		},
		"rests": func() both {
			b := begun(t, patient(), nil, 100)
			b.hears(frame.Find{From: 2, Level: 4})
			for range 3 {
				b.send(1, 0)
			}
			return b
		},
		"goes by a root": func() both {
			s := patient()
			s.Rules.Need = 2
			b := begun(t, s, nil, 100)
			b.hears(word(6, 500))
			return b
		},
		"full": func() both {
			b := begun(t, patient(), nil, 100)
			b.hears(word(6, 500))
			for range 8 {
				b.hears(seeks())
			}
			return b
		},
	}
	for _, way := range ways() {
		list["lived "+string(rune('0'+way))] = func() both { return lived(t, way, 100) }
	}
	return list
}

// unmoved fails, unless what comes to a node leaves all that it tells, and all that it sends and tells from then on, as with one to which it doesn't come.
func unmoved(t testing.TB, of past, comes func(b both)) {
	t.Helper()
	b, other := of(), of()
	was := b.n.Status()
	comes(b)
	if b.n.Status() != was {
		t.Fatalf("%v; and not %v", b.n.Status(), was)
	}
	for round := range 6 {
		out, _ := b.send(4*round+1, 0)
		if want, _ := other.send(4*round+1, 0); !slices.Equal(out, want) {
			t.Fatalf("%d: %v; and not %v", round, out, want)
		}
		e, _ := b.take()
		if want, _ := other.take(); e != want {
			t.Fatalf("%v; and not %v", e, want)
		}
		for _, x := range []both{b, other} {
			x.goes(1000)
			x.hears(frame.Reply{From: 2, To: 5, Sent: 100, Got: 800, Back: 900, Root: 1, Boot: 7, Hops: 1})
			x.hears(word(uint16(11+round), 6000+1000*round))
			x.tag("door")
		}
		if b.n.Status() != other.n.Status() {
			t.Fatalf("%d: %v; and not %v", round, b.n.Status(), other.n.Status())
		}
	}
}

// P26.1, P26.2: bytes of each of layer 5's errors change nothing.
func TestBytesThatAreNoFrame(t *testing.T) {
	good := [][]byte{coded(t, seeks()), coded(t, word(11, 700)), coded(t, pulse(9)), coded(t, anchored(60, 77)), coded(t, frame.Find{From: 2, Level: 0}), coded(t, frame.Reply{From: 2, To: 5, Sent: 100, Got: 9, Back: 9})}
	bad := map[api.Errno][][]byte{
		api.ErrForm: {nil, {}, {0}, {3}, {3, 5}, {1, 2, 3}, {0, 1, 2}, {7, 5, 0, 0}, {255, 255, 255, 255}, make([]byte, 64)},
		api.ErrLong: {make([]byte, 65), make([]byte, 66), make([]byte, 1000)},
	}
	for _, x := range good {
		bad[api.ErrForm] = append(bad[api.ErrForm], x[:len(x)-1], x[1:], append(slices.Clone(x), 0))
		bad[api.ErrLong] = append(bad[api.ErrLong], append(slices.Clone(x), make([]byte, 65-len(x))...))
		for i := 1; i < len(x); i++ {
			torn := slices.Clone(x)
			torn[i] ^= 16
			bad[api.ErrSum] = append(bad[api.ErrSum], torn)
		}
	}
	// The sum is right, but there is no such node.
	bad[api.ErrForm] = append(bad[api.ErrForm], []byte{3, 64, 0, 0})
	last := bad[api.ErrForm][len(bad[api.ErrForm])-1]
	for sum := range 1 << 16 {
		last[2], last[3] = byte(sum>>8), byte(sum)
		if _, code := frame.Decode(last...); code != api.ErrSum {
			break
		}
	}
	for _, of := range pasts(t) {
		unmoved(t, of, func(b both) {
			for code, list := range bad {
				for _, x := range list {
					if is := b.hear(0, slices.Clone(x)...); is != code {
						t.Errorf("%x: %d; and not %d", x, is, code)
					}
				}
			}
		})
	}
}

// P26.1: jitters beyond the setup's are refused, ahead of the bytes, and change nothing.
func TestHearWithJittersThatCantBe(t *testing.T) {
	for _, of := range pasts(t) {
		unmoved(t, of, func(b both) {
			for _, jitter := range []int{least, least + 3, -1 << 32, -5, -4, 4, 5, 1 << 32, greatest} {
				for _, x := range someBytes(t) {
					if b.hear(jitter, x...) != api.ErrArg {
						t.Errorf("Hear(%d, %x)", jitter, x)
					}
				}
			}
		})
	}
	for _, most := range []int{0, 1, 20} {
		s := some()
		s.Jitter = most
		b := begun(t, s, nil, 100)
		for jitter := -most - 2; jitter <= most+2; jitter++ {
			want := api.ErrArg
			if jitter >= -most && jitter <= most {
				want = api.OK
			}
			if b.hear(jitter, coded(t, seeks())...) != want {
				t.Errorf("%d of %d", jitter, most)
			}
		}
	}
}

// P26.1: frames of the node itself are nothing to it.
func TestFramesOfItsOwn(t *testing.T) {
	own := []frame.Frame{
		frame.Sync{From: 5, Root: 0, Boot: 3, Seq: 99, Time: 9000}, frame.Sync{From: 5, Root: 5, Boot: 1, Seq: 99, Time: 9000}, frame.Find{From: 5, Level: 0}, frame.Want{From: 5}, frame.Pulse{From: 5, To: 5, Sent: 4},
		frame.Pulse{From: 5, To: 2, Sent: 100}, frame.Reply{From: 5, To: 5, Sent: 100, Got: 4, Back: 5}, frame.Anchor{From: 5, Seq: 99, Root: 0, Boot: 3, Tai: 9},
	}
	for what, of := range pasts(t) {
		if what == "full" {
			// Not even that there is no room is told.
			if b := of(); b.hears(own...) != api.OK {
				t.Error("it is heard")
			}
		}
		unmoved(t, of, func(b both) {
			for _, f := range own {
				if b.hears(f) != api.OK {
					t.Errorf("%v", f)
				}
			}
		})
	}
}

// P26.1: what the flood takes, is moved by, and refuses; with the stamp.
func TestSyncs(t *testing.T) {
	s := patient()
	s.Rules.Need = 3
	b := begun(t, s, nil, 100)
	is := func(root, entries int, synced bool, boot, seq uint16) {
		t.Helper()
		m, ok := b.n.Mark()
		if s := b.n.Status(); s.Root != root || s.Entries != entries || s.Synced != synced || m != (elect.Mark{Boot: boot, Seq: seq}) || ok != (root >= 0) {
			t.Fatalf("%v, %v, %v", s, m, ok)
		}
	}
	for _, f := range []frame.Sync{{From: 1, Root: 5, Boot: 1, Seq: 1}, {From: 1, Root: 6, Boot: 1, Seq: 1}, {From: 1, Root: 63, Boot: 1, Seq: 1}, {From: 1, Root: 0, Boot: 1, Seq: 1, Hops: 63}} {
		if b.hears(f) != api.OK {
			t.Error(f)
		}
		is(-1, 0, false, 0, 0)
	}
	b.hears(frame.Sync{From: 1, Root: 4, Boot: 1, Seq: 1, Hops: 62, Time: 700})
	is(4, 1, false, 1, 1)
	b.goes(1000)
	b.hears(frame.Sync{From: 9, Root: 4, Boot: 1, Seq: 2, Hops: 2, Time: 1700})
	is(4, 2, false, 1, 2)
	for _, f := range []frame.Sync{{From: 1, Root: 4, Boot: 1, Seq: 2}, {From: 1, Root: 4, Boot: 1, Seq: 1}, {From: 1, Root: 4, Boot: 0, Seq: 9}, {From: 1, Root: 4, Boot: 1, Seq: 3, Hops: 63}} {
		if b.hears(f) != api.OK {
			t.Error(f)
		}
		is(4, 2, false, 1, 2)
	}
	b.goes(1000)
	b.hears(frame.Sync{From: 9, Root: 4, Boot: 1, Seq: 7, Hops: 2, Time: 2700})
	is(4, 3, true, 1, 7)
	b.is(source.Answer{Time: 2700, Hops: 63, Whose: source.Whose{Root: 4, Boot: 1}, Way: source.Flooded})
	b.hears(frame.Sync{From: 9, Root: 4, Boot: 2, Seq: 0, Time: 5})
	is(4, 1, false, 2, 0)
	b.hears(frame.Sync{From: 9, Root: 2, Boot: 65535, Seq: 65535, Time: 5})
	is(2, 1, false, 65535, 65535)
	// Of the same own time the newer word holds.
	b.hears(frame.Sync{From: 9, Root: 2, Boot: 65535, Seq: 0, Time: 9})
	is(2, 1, false, 65535, 0)
	b.hears(frame.Sync{From: 9, Root: 4, Boot: 3, Seq: 1, Time: 5})
	is(2, 1, false, 65535, 0)
}

// P26.1: stamps are as wrong as told, but from 0 to the greatest time.
func TestHearWithStamps(t *testing.T) {
	s := some()
	s.Jitter, s.Rules.Timeout, s.Limit = 20, 9, 9
	for _, x := range []struct{ now, jitter, stamp int }{{100, 20, 120}, {100, -20, 80}, {100, 0, 100}, {5, -20, 0}, {0, -1, 0}, {0, 20, 20}, {20, -20, 0}, {21, -20, 1}, {top, 20, top}, {top, 1, top}, {top - 19, 20, top}, {top - 20, 20, top}, {top - 21, 20, top - 1}, {top, -20, top - 20}} {
		set := func() both {
			b := begun(t, s, nil, 0)
			b.wind(x.now)
			return b
		}
		// At the stamp the root's time was half the greatest.
		b := set()
		b.hear(x.jitter, coded(t, word(6, top/2))...)
		b.is(source.Answer{Time: top/2 + x.now - x.stamp, Hops: 1, Whose: source.Whose{Root: 0, Boot: 3}, Way: source.Flooded})
		// As the pulse came it was so much later than it is now.
		b = set()
		b.hears(word(6, top/2))
		b.hear(x.jitter, coded(t, pulse(40))...)
		b.sends(1, 0, frame.Sync{From: 5, Root: 0, Boot: 3, Seq: 6, Hops: 1, Time: top / 2}, frame.Reply{From: 5, To: 7, Sent: 40, Got: top/2 + x.stamp - x.now, Back: top / 2, Root: 0, Boot: 3, Hops: 1})
		// The reply came at the stamp, not ahead of the pulse's going.
		b = set()
		b.hears(frame.Find{From: 2, Level: 0})
		b.sends(1, 0, frame.Pulse{From: 5, To: 2, Sent: x.now})
		b.hear(x.jitter, coded(t, frame.Reply{From: 2, To: 5, Sent: x.now, Got: top / 2, Back: top / 2, Root: 0, Boot: 3, Hops: 1})...)
		if x.stamp < x.now {
			b.isNot(api.ErrUnsync)
			continue
		}
		b.is(source.Answer{Time: x.now + halved(top/2-x.now+top/2-x.stamp), Hops: 2, Whose: source.Whose{Root: 0, Boot: 3}, Way: source.Asked})
	}
}

// P26.1: the root's time may be none at the stamp, though it is one now, and the other way round.
func TestHearWithStampsOfNoTime(t *testing.T) {
	for _, f := range []frame.Frame{seeks(), pulse(40)} {
		b := begun(t, some(), nil, 100)
		b.hears(word(6, top))
		for jitter, jobs := range map[int]int{0: 1, 1: 0, 3: 0, -1: 1, -3: 1} {
			was := b.n.Status().Jobs
			if b.hear(jitter, coded(t, f)...) != api.OK || b.n.Status().Jobs != was+jobs {
				t.Errorf("%v, %d: %v", f, jitter, b.n.Status())
			}
		}
		b = begun(t, some(), nil, 100)
		b.hears(word(6, 0))
		for jitter, jobs := range map[int]int{0: 1, 1: 1, 3: 1, -1: 0, -3: 0} {
			was := b.n.Status().Jobs
			if b.hear(jitter, coded(t, f)...) != api.OK || b.n.Status().Jobs != was+jobs {
				t.Errorf("%v, %d: %v", f, jitter, b.n.Status())
			}
		}
	}
}

// P26.1: the level's, as long as the flood isn't synced; whether it was asked plays no part.
func TestFindsThatCome(t *testing.T) {
	is := func(b both, level, parent int) {
		t.Helper()
		if s := b.n.Status(); s.Level != level || s.Parent != parent {
			t.Fatalf("%v; and not %d, %d", s, level, parent)
		}
	}
	b := begun(t, patient(), nil, 100)
	for _, x := range []struct{ from, told, level, parent int }{{2, 63, -1, -1}, {2, 62, 63, 2}, {3, 62, 63, 2}, {3, 61, 62, 3}, {3, 63, -1, -1}, {0, 4, 5, 0}, {1, 4, 5, 0}, {63, 63, 5, 0}, {0, 20, 21, 0}, {63, 0, 1, 63}, {0, 0, 1, 63}} {
		if b.hears(frame.Find{From: x.from, Level: x.told}) != api.OK {
			t.Error(x)
		}
		is(b, x.level, x.parent)
	}
	b = begun(t, patient(), nil, 100)
	b.asks(1)
	is(b, 1, 2)
	b.hears(frame.Find{From: 2, Level: 7})
	is(b, 8, 2)
	b.hears(frame.Find{From: 9, Level: 3})
	is(b, 4, 9)
	// Once it is synced nothing of that is heard, nearer ones and the parent's too.
	b.hears(word(6, 500))
	for _, f := range []frame.Find{{From: 1, Level: 0}, {From: 9, Level: 7}, {From: 9, Level: 63}, {From: 9, Level: 0}} {
		if b.hears(f) != api.OK {
			t.Error(f)
		}
		is(b, 4, 9)
	}
	b = begun(t, root(), nil, 100)
	b.send(1, 0)
	b.hears(frame.Find{From: 1, Level: 0})
	is(b, -1, -1)
	// One that knows a root, but not enough of it.
	s := patient()
	s.Rules.Need = 2
	b = begun(t, s, nil, 100)
	b.hears(word(6, 500), frame.Find{From: 1, Level: 0})
	is(b, 1, 1)
}

// P26.1: of who knows the time, on whatever way, an answer waits; of who doesn't none does.
func TestWantsAndPulses(t *testing.T) {
	for what, of := range pasts(t) {
		for _, f := range []frame.Frame{seeks(), frame.Want{From: 0}, frame.Want{From: 63}, pulse(0), pulse(top), frame.Pulse{From: 0, To: 5, Sent: 3}} {
			b := of()
			_, code := b.n.Time()
			was := b.n.Status()
			want := was
			if code == api.OK && what != "full" {
				want.Jobs++
			}
			is := b.hears(f)
			if b.n.Status() != want || (is == api.ErrFull) != (what == "full") || is != api.OK && is != api.ErrFull {
				t.Errorf("%s, %v: %d, %v", what, f, is, b.n.Status())
			}
		}
	}
}

// P26.1: pulses to somebody else are nothing, even where there is no room.
func TestPulsesToOthers(t *testing.T) {
	for _, of := range pasts(t) {
		unmoved(t, of, func(b both) {
			for _, to := range []int{0, 4, 6, 7, 63} {
				if b.hears(frame.Pulse{From: 7, To: to, Sent: 40}) != api.OK {
					t.Error(to)
				}
			}
		})
	}
}

// P26.1: a reply to what was asked is taken, once, whatever the node knows besides.
func TestRepliesThatCome(t *testing.T) {
	b := begun(t, patient(), nil, 100)
	b.hears(frame.Find{From: 2, Level: 4})
	b.sends(1, 0, frame.Pulse{From: 5, To: 2, Sent: 100})
	good := frame.Reply{From: 2, To: 5, Sent: 100, Got: 8000, Back: 8101, Root: 63, Boot: 65535, Hops: 62}
	b.goes(1000)
	for _, change := range []func(f *frame.Reply){
		func(f *frame.Reply) { f.From = 3 },
		func(f *frame.Reply) { f.To = 6 },
		func(f *frame.Reply) { f.Sent = 99 },
		func(f *frame.Reply) { f.Sent = 101 },
		func(f *frame.Reply) { f.Hops = 63 },
	} {
		f := good
		change(&f)
		if b.hears(f) != api.OK || !b.n.Status().Waits {
			t.Errorf("%v: %v", f, b.n.Status())
		}
		b.isNot(api.ErrUnsync)
	}
	if b.hears(good) != api.OK || b.n.Status().Waits {
		t.Errorf("%v", b.n.Status())
	}
	// (8000 - 100 + 8101 - 1100) / 2, rounded down.
	want := source.Answer{Time: 1100 + 7450, Hops: 63, Whose: source.Whose{Root: 63, Boot: 65535}, Way: source.Asked}
	b.is(want)
	good.Got = 9000
	b.hears(good)
	b.is(want)
	// A newer one takes its place, and is good from then on.
	s := patient()
	s.Limit = 3
	b = begun(t, s, nil, 100)
	b.asks(1)
	for range 4 {
		b.send(1, 0)
		if !b.n.Status().Waits {
			t.Fatal(b.n.Status())
		}
		f := b.replied(frame.Pulse{From: 5, To: 2, Sent: 100})
		f.Root, f.Boot = 1, f.Boot+1
		b.hears(f)
		b.send(1, 0)
		b.hears(b.replied(frame.Pulse{From: 5, To: 2, Sent: 100}))
		b.is(source.Answer{Time: 5100, Hops: 2, Whose: source.Whose{Root: 0, Boot: 3}, Way: source.Asked})
	}
}

// P26.1: a reply that comes as the node is synced is kept, and told once it is so no more.
func TestAReplyWhileSynced(t *testing.T) {
	s := patient()
	s.Rules.Need = 2
	b := begun(t, s, nil, 100)
	b.hears(frame.Find{From: 2, Level: 4})
	b.sends(1, 0, frame.Pulse{From: 5, To: 2, Sent: 100})
	b.hears(word(6, 500))
	b.goes(1000)
	b.hears(word(7, 1500))
	b.hears(frame.Reply{From: 2, To: 5, Sent: 100, Got: 9000, Back: 9000, Root: 2, Boot: 9, Hops: 1})
	b.is(source.Answer{Time: 1500, Hops: 1, Whose: source.Whose{Root: 0, Boot: 3}, Way: source.Flooded})
	b.hears(frame.Sync{From: 1, Root: 0, Boot: 4, Seq: 1, Time: 5})
	b.is(source.Answer{Time: 9500, Hops: 2, Whose: source.Whose{Root: 2, Boot: 9}, Way: source.Asked})
}

// P26.1: of a newer anchor one waits, if none does; of others nothing is.
func TestAnchorsThatCome(t *testing.T) {
	r := leaps(t, 0, 0, 30000)
	for _, synced := range []bool{true, false} {
		b := begun(t, patient(), r, 100)
		if synced {
			b.hears(word(6, 500))
		}
		jobs := 0
		for _, x := range []struct {
			seq   uint16
			newer bool
		}{{40000, true}, {40000, false}, {39999, false}, {7233, false}, {7232, false}, {40001, true}, {65535, true}, {0, true}, {65535, false}, {32767, true}, {32767, false}, {65534, true}, {32766, false}} {
			for _, root := range []int{0, 63} {
				f := anchored(x.seq, 86400+int(x.seq))
				if root == 63 {
					// The same number, from somebody else, of another root: it isn't newer.
					f.From, f.Root, f.Tai = 63, 63, 9
				}
				if x.newer {
					jobs = 1
				}
				if b.hears(f) != api.OK || b.n.Status().Jobs != jobs {
					t.Errorf("%v: %v", f, b.n.Status())
				}
			}
			if a, ok := b.n.book.Has(); !ok || a.From != 1 || x.newer && a.Seq != x.seq {
				t.Errorf("%v: %v", x, a)
			}
			if x.seq%2 == 0 {
				b.send(1, 0)
				jobs = 0
			}
		}
	}
}

// P26.1: the eighth answer waits, the ninth doesn't; all else is as told.
func TestWithoutRoom(t *testing.T) {
	for _, f := range []frame.Frame{seeks(), pulse(40)} {
		b := begun(t, patient(), leaps(t, 0, 0, 30000), 100)
		b.hears(word(6, 500))
		for i := 1; i <= 8; i++ {
			if b.hears(f) != api.OK || b.n.Status().Jobs != i {
				t.Fatalf("%d: %v", i, b.n.Status())
			}
		}
		for _, x := range []frame.Frame{seeks(), pulse(40), f} {
			if b.hears(x) != api.ErrFull || b.n.Status().Jobs != 8 {
				t.Fatalf("%v: %v", x, b.n.Status())
			}
		}
		// The book has the anchor all the same, and none waits.
		for i, text := range []string{"1970-01-02T00:00:00Z", "1970-01-03T00:00:00Z"} {
			if b.hears(frame.Anchor{From: 1, Seq: uint16(i), Root: 0, Boot: 3, Global: 500, Tai: 86400 * (i + 1)}) != api.ErrFull || b.n.Status().Jobs != 8 {
				t.Fatalf("%v", b.n.Status())
			}
			if u, k, code := b.n.Utc(); u.Text() != text || k != 0 || code != api.OK {
				t.Errorf("%v, %d, %d", u, k, code)
			}
			// The same one isn't newer any more, and so there is no room needed.
			if b.hears(frame.Anchor{From: 1, Seq: uint16(i), Root: 0, Boot: 3, Global: 500, Tai: 9}) != api.OK {
				t.Error("it is newer")
			}
		}
		// What needs no room is heard.
		if b.hears(word(7, 500)) != api.OK || b.hears(frame.Find{From: 1}) != api.OK || b.hears(frame.Pulse{From: 7, To: 6}) != api.OK || b.hears(frame.Reply{From: 2, To: 5}) != api.OK {
			t.Error("it isn't heard")
		}
		if m, _ := b.n.Mark(); m.Seq != 7 {
			t.Error(m)
		}
		// Behind a step there is room for two.
		b.send(1, 0)
		if b.hears(seeks()) != api.OK || b.hears(anchored(5, 9)) != api.OK || b.hears(seeks()) != api.ErrFull {
			t.Error(b.n.Status())
		}
		// One waits, so that the newer one needs no room.
		if b.hears(anchored(6, 10)) != api.OK || b.n.Status().Jobs != 8 {
			t.Error(b.n.Status())
		}
		for range 3 {
			b.send(1, 0)
		}
		out, _ := b.send(1, 0)
		if want := (frame.Anchor{From: 5, Seq: 6, Root: 0, Boot: 3, Global: 200, Tai: 10}); len(out) != 3 || out[2] != want {
			t.Errorf("%v", out)
		}
	}
}

// P26.1: where the time isn't known there is room that isn't needed; ErrFull isn't told.
func TestWithoutRoomAndTime(t *testing.T) {
	b := begun(t, patient(), nil, 100)
	b.hears(word(6, top))
	for range 8 {
		b.hears(seeks())
	}
	b.goes(1000)
	if b.hears(seeks()) != api.OK || b.hears(pulse(40)) != api.OK || b.hears(anchored(4, 9)) != api.ErrFull || b.n.Status().Jobs != 8 {
		t.Error(b.n.Status())
	}
}

// P26.1: what is handed in stays as it was, spare room included, and isn't kept.
func TestHearKeepsNothing(t *testing.T) {
	for _, f := range []frame.Frame{word(6, 500), frame.Find{From: 2, Level: 3}, seeks(), pulse(40), anchored(4, 86410), frame.Reply{From: 2, To: 5, Sent: 100, Got: 7, Back: 9, Root: 0, Boot: 3}} {
		s := patient()
		b := begun(t, s, nil, 100)
		b.hears(frame.Find{From: 2, Level: 0})
		b.sends(1, 0, frame.Pulse{From: 5, To: 2, Sent: 100})
		b.hears(frame.Sync{From: 1, Root: 1, Boot: 1, Seq: 1, Time: 40})
		x := coded(t, f)
		room := append(slices.Clone(x), 1, 2, 3, 4, 5, 6, 7, 8)
		handed := room[:len(x)]
		if b.n.Hear(0, handed...) != api.OK || b.p.hear(0, x...) != api.OK {
			t.Fatal(f)
		}
		if !slices.Equal(room, append(slices.Clone(x), 1, 2, 3, 4, 5, 6, 7, 8)) {
			t.Errorf("%v: %x", f, room)
		}
		for i := range room {
			room[i] = 77
		}
		b.same()
		for range 3 {
			b.send(1, 0)
		}
	}
}

// P26.1: nodes of two rules side by side, one of which hears another root as its own is given up.
func TestRulesPlayTheirPart(t *testing.T) {
	for _, ignore := range []int{0, 1, 5} {
		s := some()
		s.Rules = flood.Rules{Rules: elect.Rules{Timeout: 3, Ignore: ignore}, Need: 1, Drift: 5}
		s.Limit = 3
		b := begun(t, s, nil, 100)
		for seq := uint16(1); seq < 20; seq++ {
			b.hears(word(seq, 500))
			b.send(1, 0)
			b.send(1, 0)
		}
		if b.n.Status().Root != 0 {
			t.Fatal(b.n.Status())
		}
		b.send(1, 0)
		if !b.n.Status().Mine {
			t.Fatal(b.n.Status())
		}
		for round := range 10 {
			b.hears(word(uint16(20+round), 500))
			if b.n.Status().Mine != (round < ignore) {
				t.Fatalf("%d, %d: %v", ignore, round, b.n.Status())
			}
			b.send(1, 0)
		}
	}
}
