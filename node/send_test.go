package node

import (
	"slices"
	"testing"

	"angelus/api"
	"angelus/duty"
	"angelus/frame"
	"angelus/source"
)

// P26.1: in other steps than its own nothing is sent, and no round is over.
func TestSendInStepsOfItsOwn(t *testing.T) {
	for _, plan := range []duty.Plan{{Round: 1, Open: 1}, {Round: 2, Open: 1, Own: 1}, {Round: 4, Open: 2, Own: 1}, {Round: 64, Open: 64, Own: 63}, {Round: 64, Open: 1}} {
		s := root()
		s.Plan = plan
		b := begun(t, s, nil, 100)
		seq := uint16(0)
		for _, step := range []int{least, least + 1, least + plan.Own, -64 + plan.Own, -plan.Round, plan.Own - plan.Round, -2, -1} {
			b.sends(step, 0)
		}
		for step := range 200 {
			if step%plan.Round != plan.Own {
				b.sends(step, 0)
				continue
			}
			seq++
			b.sends(step, 0, frame.Sync{From: 5, Root: 5, Boot: 1, Seq: seq, Time: 100})
		}
		for _, step := range []int{greatest - greatest%plan.Round - plan.Round + plan.Own, plan.Own + plan.Round<<40} {
			seq++
			b.sends(step, 0, frame.Sync{From: 5, Root: 5, Boot: 1, Seq: seq, Time: 100})
		}
		if plan.Round > 1 {
			b.sends(greatest-greatest%plan.Round-plan.Round+plan.Own+1, 0)
		}
	}
}

// P26.1: rounds are over in its own steps alone, whichever they are, and as often as the same one is told.
func TestSendCountsRounds(t *testing.T) {
	for timeout := 1; timeout < 12; timeout++ {
		s := some()
		s.Rules.Timeout, s.Limit = timeout, 1
		b := begun(t, s, nil, 100)
		for round := 1; round < timeout; round++ {
			for _, step := range []int{-3, 0, 2, 3, 4, 6} {
				b.sends(step, 0)
			}
			b.sends(4*(round%3)+1, 0, frame.Want{From: 5})
		}
		b.sends(1, 0, frame.Sync{From: 5, Root: 5, Boot: 1, Seq: 1, Time: 100})
	}
}

// P26.1: jitters beyond the setup's are refused, ahead of the step, and no round is over.
func TestSendWithJittersThatCantBe(t *testing.T) {
	for _, most := range []int{0, 1, 3, 20} {
		s := root()
		s.Jitter = most
		b := begun(t, s, nil, 100)
		for _, jitter := range []int{least, least + 1, -1 << 32, -most - 2, -most - 1, most + 1, most + 2, 1 << 32, greatest - 1, greatest} {
			for _, step := range []int{least, -3, 0, 1, 2, 5, greatest} {
				if out, code := b.send(step, jitter); len(out) != 0 || code != api.ErrArg || b.n.Status() != fresh(1, 100) {
					t.Errorf("%d: Send(%d, %d): %v, %d", most, step, jitter, out, code)
				}
			}
		}
		for i, jitter := range []int{-most, -most / 2, 0, most / 2, most} {
			b.sends(0, jitter)
			b.sends(1, jitter, frame.Sync{From: 5, Root: 5, Boot: 1, Seq: uint16(i + 1), Time: 100 + jitter})
		}
	}
}

// P26.1: stamps below 0 and above the greatest time are these.
func TestSendWithStampsThatCantBe(t *testing.T) {
	s := root()
	s.Jitter = 20
	for _, x := range [][3]int{{0, -20, 0}, {0, -1, 0}, {0, 0, 0}, {0, 1, 1}, {19, -20, 0}, {20, -20, 0}, {21, -20, 1}, {5, -6, 0}} {
		b := begun(t, s, nil, uint32(x[0]))
		b.sends(1, x[1], frame.Sync{From: 5, Root: 5, Boot: 1, Seq: 1, Time: x[2]})
		// The clock itself isn't wrong.
		b.is(source.Answer{Time: x[0], Whose: source.Whose{Root: 5, Boot: 1}, Way: source.Own})
	}
	for _, x := range [][3]int{{top, 20, top}, {top, 1, top}, {top, 0, top}, {top, -1, top - 1}, {top - 19, 20, top}, {top - 20, 20, top}, {top - 21, 20, top - 1}} {
		b := begun(t, s, nil, 0)
		b.wind(x[0])
		b.sends(1, x[1], frame.Sync{From: 5, Root: 5, Boot: 1, Seq: 1, Time: x[2]})
		b.is(source.Answer{Time: x[0], Whose: source.Whose{Root: 5, Boot: 1}, Way: source.Own})
	}
	// What is asked, and answered, is stamped likewise.
	s = patient()
	for _, x := range [][3]int{{0, -3, 0}, {2, -3, 0}, {top, 3, top}, {top - 2, 3, top}, {100, -3, 97}, {100, 3, 103}} {
		b := begun(t, s, nil, 0)
		b.wind(x[0])
		b.hears(frame.Find{From: 2, Level: 0})
		b.sends(1, x[1], frame.Pulse{From: 5, To: 2, Sent: x[2]})
		b = begun(t, s, nil, 0)
		b.wind(x[0])
		b.hears(word(1, x[0]), pulse(7))
		b.sends(1, x[1],
			frame.Sync{From: 5, Root: 0, Boot: 3, Seq: 1, Hops: 1, Time: x[2]},
			frame.Reply{From: 5, To: 7, Sent: 7, Got: x[0], Back: x[2], Root: 0, Boot: 3, Hops: 1})
	}
}

// queue are answers that wait, in turns of all kinds, and what a node that tells the time 500 sends of each; of anchors one alone waits.
func queue(count int, f frame.Find, boot uint16, root, hops int) (comes, goes []frame.Frame) {
	for i := range count {
		switch i % 4 {
		case 0:
			comes = append(comes, seeks())
			goes = append(goes, f)
		case 1:
			comes = append(comes, pulse(40+i))
			goes = append(goes, frame.Reply{From: 5, To: 7, Sent: 40 + i, Got: 500, Back: 500, Root: root, Boot: boot, Hops: hops})
		case 2:
			a := anchored(uint16(4+i), 77)
			comes = append(comes, a)
			if i == 2 {
				goes = append(goes, a)
			}
		case 3:
			comes = append(comes, frame.Pulse{From: 9 + i, To: 5, Sent: top})
			goes = append(goes, frame.Reply{From: 5, To: 9 + i, Sent: top, Got: 500, Back: 500, Root: root, Boot: boot, Hops: hops})
		}
	}
	// What waits tells the anchor that came last.
	for i, x := range goes {
		if a, ok := x.(frame.Anchor); ok {
			a.From, a.Seq = 5, uint16(4+(count-3)/4*4+2)
			goes[i] = a
		}
	}
	return comes, goes
}

// P26.1: beside a word of the flood two answers are sent in a step, in order; those that don't fit wait on.
func TestAnswersBesideAWord(t *testing.T) {
	for count := range 9 {
		b := begun(t, patient(), nil, 100)
		b.hears(word(6, 500))
		comes, goes := queue(count, frame.Find{From: 5}, 3, 0, 1)
		b.hears(comes...)
		for range 6 {
			if b.n.Status().Jobs != len(goes) {
				t.Fatal(b.n.Status())
			}
			now := min(2, len(goes))
			b.sends(1, 0, append([]frame.Frame{frame.Sync{From: 5, Root: 0, Boot: 3, Seq: 6, Hops: 1, Time: 500}}, goes[:now]...)...)
			goes = goes[now:]
		}
	}
}

// P26.1: without one three are; who isn't synced asks beside two, and doesn't beside three.
func TestAnswersWithoutAWord(t *testing.T) {
	for count := range 9 {
		for _, parent := range []bool{true, false} {
			b := begun(t, patient(), nil, 100)
			b.asks(1)
			if !parent {
				b.hears(frame.Find{From: 2, Level: 63})
			}
			f := frame.Find{From: 5, Level: 1}
			comes, goes := queue(count, f, 3, 0, 2)
			for i, x := range goes {
				if r, ok := x.(frame.Reply); ok {
					r.Got, r.Back = 5100, 5100
					goes[i] = r
				}
			}
			b.hears(comes...)
			if !parent {
				goes = slices.DeleteFunc(goes, func(x frame.Frame) bool { return x == f })
			}
			for range 6 {
				now := min(3, len(goes))
				sent := goes[:now]
				goes = goes[now:]
				if now < 3 && !parent {
					sent = append(sent, frame.Want{From: 5})
				} else if now < 3 && !b.n.Status().Waits {
					sent = append(sent, frame.Pulse{From: 5, To: 2, Sent: 100})
				}
				was := b.n.Status().Waits
				b.sends(1, 0, sent...)
				// Beside three nobody is asked, so that it doesn't wait either.
				if is := b.n.Status().Waits; now == 3 && is != was || parent && now < 3 && !is {
					t.Fatalf("%d: %v", count, is)
				}
				if b.n.Status().Waits {
					b.hears(b.replied(frame.Pulse{From: 5, To: 2, Sent: 100}))
				}
			}
			if b.n.Status().Jobs != 0 {
				t.Fatal(b.n.Status())
			}
		}
	}
}

// P26.1: told by hand: what comes behind goes behind, and what waits makes room as it goes.
func TestAnswersWaitInTurn(t *testing.T) {
	b := begun(t, patient(), nil, 100)
	b.hears(word(6, 500))
	said := frame.Sync{From: 5, Root: 0, Boot: 3, Seq: 6, Hops: 1, Time: 500}
	at := func(sent int) frame.Frame {
		return frame.Reply{From: 5, To: 7, Sent: sent, Got: 500, Back: 500, Root: 0, Boot: 3, Hops: 1}
	}
	b.hears(pulse(1), pulse(2), pulse(3))
	b.sends(1, 0, said, at(1), at(2))
	b.hears(pulse(4))
	b.sends(5, 0, said, at(3), at(4))
	b.hears(pulse(5), pulse(6), pulse(7), pulse(8), pulse(9), pulse(10), pulse(11), pulse(12))
	if b.hears(pulse(13)) != api.ErrFull {
		t.Error("there is room")
	}
	b.sends(9, 0, said, at(5), at(6))
	if b.hears(pulse(14), pulse(15)) != api.OK || b.hears(pulse(16)) != api.ErrFull {
		t.Error("there is no room")
	}
	for _, sent := range []int{7, 9, 11, 14} {
		next := sent + 1
		if sent == 11 {
			next = 12
		}
		b.sends(1, 0, said, at(sent), at(next))
	}
	b.sends(1, 0, said)
}

// P26.1: a find is answered by a root, by who is synced, and by who asked somebody, and has a level.
func TestFinds(t *testing.T) {
	b := begun(t, root(), nil, 100)
	b.sends(1, 0, frame.Sync{From: 5, Root: 5, Boot: 1, Seq: 1, Time: 100})
	b.hears(seeks())
	b.sends(1, 0, frame.Sync{From: 5, Root: 5, Boot: 1, Seq: 2, Time: 100}, frame.Find{From: 5})

	b = begun(t, patient(), nil, 100)
	b.hears(frame.Find{From: 2, Level: 6}, word(6, 500), seeks())
	b.sends(1, 0, frame.Sync{From: 5, Root: 0, Boot: 3, Seq: 6, Hops: 1, Time: 500}, frame.Find{From: 5})

	for _, level := range []int{0, 1, 30, 62} {
		b = begun(t, patient(), nil, 100)
		b.asks(1)
		b.hears(frame.Find{From: 2, Level: level}, seeks())
		b.sends(1, 0, frame.Find{From: 5, Level: level + 1}, frame.Pulse{From: 5, To: 2, Sent: 100})
	}

	// Without a level there is nothing to tell.
	b = begun(t, patient(), nil, 100)
	b.asks(1)
	b.hears(seeks(), frame.Find{From: 2, Level: 63}, seeks())
	b.sends(1, 0, frame.Want{From: 5})
	if b.n.Status().Jobs != 0 {
		t.Error(b.n.Status())
	}

	// It is asked at the time it is sent: who asked is synced by then, and the other way round.
	b = begun(t, patient(), nil, 100)
	b.asks(1)
	b.hears(seeks(), word(6, 500))
	b.sends(1, 0, frame.Sync{From: 5, Root: 0, Boot: 3, Seq: 6, Hops: 1, Time: 500}, frame.Find{From: 5})
	s := patient()
	s.Rules.Need = 2
	b = begun(t, s, nil, 100)
	b.asks(1)
	b.goes(1000)
	b.hears(word(6, 500))
	b.goes(1000)
	b.hears(word(7, 1500), seeks(), frame.Sync{From: 1, Root: 0, Boot: 4, Seq: 1, Time: 9})
	b.sends(1, 0, frame.Find{From: 5, Level: 1}, frame.Pulse{From: 5, To: 2, Sent: 2100})
}

// forgets are nodes that knew the time, by some way, but don't when it comes to sending, and what they send then, beside answers.
func forgets(t testing.TB, comes ...frame.Frame) map[string]func() (both, []frame.Frame) {
	return map[string]func() (both, []frame.Frame){
		"what was asked is too old": func() (both, []frame.Frame) {
			s := patient()
			s.Limit = 1
			b := begun(t, s, nil, 100)
			b.asks(1)
			b.hears(comes...)
			return b, []frame.Frame{frame.Pulse{From: 5, To: 2, Sent: 100}}
		},
		"what was asked is no time": func() (both, []frame.Frame) {
			b := begun(t, patient(), nil, 100)
			b.hears(frame.Find{From: 2, Level: 0})
			b.sends(1, 0, frame.Pulse{From: 5, To: 2, Sent: 100})
			b.hears(frame.Reply{From: 2, To: 5, Sent: 100, Got: top, Back: top, Root: 0, Boot: 3, Hops: 1})
			b.hears(comes...)
			b.goes(1000)
			return b, []frame.Frame{frame.Pulse{From: 5, To: 2, Sent: 1100}}
		},
		"what was flooded is no time": func() (both, []frame.Frame) {
			b := begun(t, patient(), nil, 100)
			b.hears(word(6, top))
			b.hears(comes...)
			b.goes(1000)
			return b, nil
		},
		"the flood is of another life, and there aren't enough entries": func() (both, []frame.Frame) {
			s := patient()
			s.Rules.Need = 2
			b := begun(t, s, nil, 100)
			b.hears(word(6, 500))
			b.goes(1000)
			b.hears(word(7, 1500))
			b.hears(comes...)
			b.hears(frame.Sync{From: 1, Root: 0, Boot: 4, Seq: 1, Time: 9})
			return b, []frame.Frame{frame.Want{From: 5}}
		},
	}
}

// P26.1: where the time isn't known any more nothing is made of finds and replies, and they wait no more; of anchors it is.
func TestAnswersWithoutATime(t *testing.T) {
	for what, of := range forgets(t, seeks(), pulse(1), seeks(), pulse(2), pulse(3), seeks(), pulse(4)) {
		b, want := of()
		if b.n.Status().Jobs != 7 {
			t.Fatalf("%s: %v", what, b.n.Status())
		}
		b.sends(1, 0, want...)
		if b.n.Status().Jobs != 0 {
			t.Errorf("%s: %v", what, b.n.Status())
		}
	}
	for what, of := range forgets(t, seeks(), pulse(1), seeks(), anchored(4, 77), pulse(2), pulse(3), seeks(), pulse(4)) {
		b, want := of()
		b.sends(1, 0, append([]frame.Frame{frame.Anchor{From: 5, Seq: 4, Root: 0, Boot: 3, Global: 200, Tai: 77}}, want...)...)
		if b.n.Status().Jobs != 0 {
			t.Errorf("%s: %v", what, b.n.Status())
		}
	}
}

// P26.1: a reply tells the time as the pulse came and as it goes back, over the more hops of both.
func TestReplies(t *testing.T) {
	b := begun(t, patient(), nil, 100)
	b.hears(frame.Sync{From: 1, Root: 2, Boot: 9, Seq: 6, Hops: 3, Time: 500})
	for _, x := range []struct {
		jitter, to, sent int
	}{{0, 7, 0}, {3, 0, 40}, {-3, 63, top}} {
		b.hear(x.jitter, coded(t, frame.Pulse{From: x.to, To: 5, Sent: x.sent})...)
	}
	b.goes(1001)
	b.sends(1, 2, frame.Sync{From: 5, Root: 2, Boot: 9, Seq: 6, Hops: 4, Time: 1503},
		frame.Reply{From: 5, To: 7, Sent: 0, Got: 500, Back: 1503, Root: 2, Boot: 9, Hops: 4},
		frame.Reply{From: 5, To: 0, Sent: 40, Got: 503, Back: 1503, Root: 2, Boot: 9, Hops: 4})
	b.goes(999)
	b.sends(5, -3, frame.Sync{From: 5, Root: 2, Boot: 9, Seq: 6, Hops: 4, Time: 2497},
		frame.Reply{From: 5, To: 63, Sent: top, Got: 497, Back: 2497, Root: 2, Boot: 9, Hops: 4})

	b = begun(t, root(), nil, 100)
	b.sends(1, 0, frame.Sync{From: 5, Root: 5, Boot: 1, Seq: 1, Time: 100})
	b.hears(pulse(40))
	b.goes(1000)
	b.sends(1, 0, frame.Sync{From: 5, Root: 5, Boot: 1, Seq: 2, Time: 1100}, frame.Reply{From: 5, To: 7, Sent: 40, Got: 100, Back: 1100, Root: 5, Boot: 1})

	// The time that was asked came over two hops, what is heard of that root over one, and six.
	for _, hops := range []int{0, 5} {
		b = begun(t, patient(), nil, 100)
		b.asks(1)
		b.hears(pulse(40))
		b.goes(1000)
		b.hears(frame.Sync{From: 1, Root: 0, Boot: 3, Seq: 6, Hops: hops, Time: 900})
		b.sends(1, 0, frame.Sync{From: 5, Root: 0, Boot: 3, Seq: 6, Hops: hops + 1, Time: 900},
			frame.Reply{From: 5, To: 7, Sent: 40, Got: 5100, Back: 900, Root: 0, Boot: 3, Hops: max(2, hops+1)})
	}
}

// P26.1: of a pulse that came while another root's time was known, or another life's of it, nothing is made.
func TestRepliesOfOthers(t *testing.T) {
	for _, f := range []frame.Sync{{From: 1, Root: 1, Boot: 9, Seq: 7, Time: 900}, {From: 1, Root: 2, Boot: 10, Seq: 1, Time: 900}, {From: 1, Root: 0, Boot: 0, Seq: 1, Time: 900}} {
		b := begun(t, patient(), nil, 100)
		b.hears(frame.Sync{From: 1, Root: 2, Boot: 9, Seq: 6, Time: 500}, pulse(1), pulse(2), seeks(), pulse(3))
		if b.hears(f); b.n.Status().Root != f.Root {
			t.Fatal(b.n.Status())
		}
		b.hears(pulse(4))
		b.sends(1, 0, frame.Sync{From: 5, Root: f.Root, Boot: f.Boot, Seq: f.Seq, Hops: 1, Time: 900},
			frame.Find{From: 5}, frame.Reply{From: 5, To: 7, Sent: 4, Got: 900, Back: 900, Root: f.Root, Boot: f.Boot, Hops: 1})
		if b.n.Status().Jobs != 0 {
			t.Error(b.n.Status())
		}
	}
	// It is the root itself by now, though it told another one's time as the pulse came.
	s := some()
	s.Rules.Timeout = 2
	b := begun(t, s, nil, 100)
	b.hears(word(6, 500), pulse(1))
	b.hears(frame.Sync{From: 1, Root: 0, Boot: 4, Seq: 1, Time: 900}, pulse(2))
	b.sends(1, 0, frame.Sync{From: 5, Root: 0, Boot: 4, Seq: 1, Hops: 1, Time: 900}, frame.Reply{From: 5, To: 7, Sent: 2, Got: 900, Back: 900, Root: 0, Boot: 4, Hops: 1})
	b.hears(pulse(3), seeks())
	b.sends(1, 0, frame.Sync{From: 5, Root: 5, Boot: 1, Seq: 1, Time: 100}, frame.Find{From: 5})
	if b.n.Status().Jobs != 0 {
		t.Error(b.n.Status())
	}
	// The same root in the same life, by another way.
	b = begun(t, patient(), nil, 100)
	b.asks(1)
	b.hears(pulse(1), word(6, 500))
	b.sends(1, 0, frame.Sync{From: 5, Root: 0, Boot: 3, Seq: 6, Hops: 1, Time: 500}, frame.Reply{From: 5, To: 7, Sent: 1, Got: 5100, Back: 500, Root: 0, Boot: 3, Hops: 2})
}

// P26.1: an anchor goes out under its own name, as it stands in the book then, known time or not; and each once.
func TestAnchors(t *testing.T) {
	b := begun(t, patient(), nil, 100)
	a := frame.Anchor{From: 63, Seq: 4, Root: 9, Boot: 8, Global: top, Tai: 0}
	b.hears(a)
	a.From = 5
	b.sends(1, 0, a, frame.Want{From: 5})
	b.sends(1, 0, frame.Want{From: 5})
	b.hears(frame.Anchor{From: 1, Seq: 5, Root: 9, Boot: 8, Global: 1, Tai: 2}, frame.Anchor{From: 2, Seq: 9, Root: 0, Boot: 65535, Global: 0, Tai: top})
	if b.n.Status().Jobs != 1 {
		t.Error(b.n.Status())
	}
	b.sends(1, 0, frame.Anchor{From: 5, Seq: 9, Root: 0, Boot: 65535, Global: 0, Tai: top}, frame.Want{From: 5})
	b.sends(1, 0, frame.Want{From: 5})
	// In the book it keeps the name of who sent it, which isn't to be seen but in its making.
	if is, ok := b.n.book.Has(); !ok || is.From != 2 {
		t.Error(is)
	}
}

// P26.1: of an anchor that waits without one in the book nothing is made, and it waits no more.
func TestAnAnchorThatIsNone(t *testing.T) {
	b := begun(t, patient(), nil, 100)
	b.n.jobs.Push(tie{})
	b.p.jobs = append(b.p.jobs, waiting{what: someTie})
	b.sends(1, 0, frame.Want{From: 5})
	if b.n.Status().Jobs != 0 {
		t.Error(b.n.Status())
	}
}

// P26.1: of frames that can't be nothing is sent, they take no room, and wait no more.
func TestFramesThatCantBe(t *testing.T) {
	b := begun(t, patient(), nil, 100)
	b.hears(word(6, 500))
	came, _ := b.n.Time()
	for _, x := range []frame.Pulse{{From: -1}, {From: 64}, {From: 7, Sent: -1}, {From: 7, Sent: top + 1}, {From: least}, {From: 7, Sent: greatest}} {
		b.n.jobs.Push(reply{to: x.From, sent: x.Sent, came: came})
		b.p.jobs = append(b.p.jobs, waiting{what: someReply, pulse: x, came: came})
	}
	b.hears(seeks(), pulse(1))
	b.sends(1, 0, frame.Sync{From: 5, Root: 0, Boot: 3, Seq: 6, Hops: 1, Time: 500}, frame.Find{From: 5}, frame.Reply{From: 5, To: 7, Sent: 1, Got: 500, Back: 500, Root: 0, Boot: 3, Hops: 1})
	if b.n.Status().Jobs != 0 {
		t.Error(b.n.Status())
	}
	// A pulse of a time that can't be is none that is asked.
	var out burst
	out.add(frame.Pulse{From: 5, To: 2, Sent: -1})
	out.add(nil)
	if out.add(frame.Want{From: 5}); len(out) != 1 {
		t.Error(out)
	}
}

// P26.1: the word that can't be said on isn't sent, and takes no room.
func TestAWordThatCantBe(t *testing.T) {
	b := begun(t, patient(), nil, 100)
	b.hears(word(6, top), anchored(4, 7))
	b.sends(1, 0, frame.Sync{From: 5, Root: 0, Boot: 3, Seq: 6, Hops: 1, Time: top}, frame.Anchor{From: 5, Seq: 4, Root: 0, Boot: 3, Global: 200, Tai: 7})
	b.sends(1, 3)
	b.sends(1, -3, frame.Sync{From: 5, Root: 0, Boot: 3, Seq: 6, Hops: 1, Time: top - 3})
	b.goes(1000)
	b.hears(anchored(5, 8))
	// It is synced all the same, and asks nobody.
	b.sends(1, 0, frame.Anchor{From: 5, Seq: 5, Root: 0, Boot: 3, Global: 200, Tai: 8})
	b.sends(1, 0)
}

// P26.1: with no parent it seeks one; with one it asks that, but as long as it waits, or rests; behind three times in vain its level is lost.
func TestAskingInVain(t *testing.T) {
	b := begun(t, patient(), nil, 100)
	seek, ask := frame.Frame(frame.Want{From: 5}), frame.Frame(frame.Pulse{From: 5, To: 2, Sent: 100})
	b.sends(1, 0, seek)
	b.sends(1, 0, seek)
	for range 3 {
		b.hears(frame.Find{From: 2, Level: 4})
		for _, asks := range []bool{true, false, false, true, false, false, false, false, true, false} {
			if asks {
				b.sends(1, 0, ask)
			} else {
				b.sends(1, 0)
			}
			if s := b.n.Status(); s.Level != 5 || s.Parent != 2 {
				t.Fatal(s)
			}
		}
		// It gives up; in the same step it seeks somebody else.
		b.sends(1, 0, seek)
		if s := b.n.Status(); s.Level != -1 || s.Parent != -1 || s.Waits {
			t.Fatal(s)
		}
		b.sends(1, 0, seek)
	}
	// Whoever it heard of in between is asked when it rests no more.
	b.hears(frame.Find{From: 2, Level: 4})
	b.sends(1, 0, ask)
	b.hears(frame.Find{From: 3, Level: 1})
	b.sends(1, 0)
	b.sends(1, 0)
	b.sends(1, 0, frame.Pulse{From: 5, To: 3, Sent: 100})
}

// P26.1: a node that gives up loses its level even where it is synced by then, and asks nobody.
func TestGivingUpWhileSynced(t *testing.T) {
	s := patient()
	s.Rules.Need = 2
	b := begun(t, s, nil, 100)
	b.hears(frame.Find{From: 2, Level: 4})
	for range 10 {
		b.send(1, 0)
	}
	b.hears(word(6, 500))
	b.goes(1000)
	b.hears(word(7, 1500))
	b.sends(1, 0, frame.Sync{From: 5, Root: 0, Boot: 3, Seq: 7, Hops: 1, Time: 1500})
	if s := b.n.Status(); s.Level != -1 || s.Parent != -1 || s.Waits || !s.Synced {
		t.Error(s)
	}
}

// P26.1: a find that waits as the level is lost in the same step isn't told of.
func TestGivingUpWithAFind(t *testing.T) {
	b := begun(t, patient(), nil, 100)
	b.asks(1)
	for range 10 {
		b.send(1, 0)
	}
	b.hears(seeks(), seeks(), seeks())
	b.sends(1, 0, frame.Want{From: 5})
	// The time that was asked of the one given up is good still.
	b.is(source.Answer{Time: 5100, Hops: 2, Whose: source.Whose{Root: 0, Boot: 3}, Way: source.Asked})
}

// P26.1: who takes itself for the root asks nobody any more, in that very step, and what waits is told of as a root tells it.
func TestTheStepInWhichItIsTheRoot(t *testing.T) {
	s := some()
	s.Rules.Timeout, s.Limit = 2, 2
	b := begun(t, s, nil, 100)
	b.hears(frame.Find{From: 2, Level: 4})
	b.sends(1, 0, frame.Pulse{From: 5, To: 2, Sent: 100})
	b.hears(frame.Reply{From: 2, To: 5, Sent: 100, Got: 900, Back: 900, Root: 3, Boot: 7, Hops: 0}, seeks(), pulse(1))
	b.sends(1, 0, frame.Sync{From: 5, Root: 5, Boot: 1, Seq: 1, Time: 100}, frame.Find{From: 5})
	if b.n.Status().Jobs != 0 {
		t.Error(b.n.Status())
	}
}

// P26.1: what is answered is new memory, and nothing of it is shared.
func TestSendAnswersNewMemory(t *testing.T) {
	b := begun(t, patient(), nil, 100)
	b.hears(word(6, 500), anchored(4, 77), seeks(), seeks(), seeks())
	first, code := b.n.Send(1, 0)
	if code != api.OK || len(first) != 3 {
		t.Fatalf("%x, %d", first, code)
	}
	b.p.send(1, 0)
	said := coded(t, frame.Sync{From: 5, Root: 0, Boot: 3, Seq: 6, Hops: 1, Time: 500})
	for i, x := range first {
		spare := x[:cap(x)]
		for k := range spare {
			spare[k] = 255
		}
		for _, other := range first[i+1:] {
			if _, code := frame.Decode(other...); code != api.OK {
				t.Fatalf("%x: %d", other, code)
			}
		}
	}
	clear(first[:cap(first)])
	second, code := b.n.Send(1, 0)
	if code != api.OK || len(second) != 3 || !slices.Equal(second[0], said) {
		t.Fatalf("%x, %d", second, code)
	}
	b.p.send(1, 0)
	if !slices.Equal(second[1], coded(t, frame.Find{From: 5})) || !slices.Equal(second[2], second[1]) || first[0] != nil {
		t.Fatalf("%x", second)
	}
	second[1][0] = 9
	if second[2][0] != 2 {
		t.Fatalf("%x", second)
	}
	b.same()
}
