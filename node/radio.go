package node

import (
	"angelus/api"
	"angelus/fix"
	"angelus/frame"
	"angelus/source"
)

// burst is what a node sends in a step, as bytes.
type burst [][]byte

// room: whether one frame more may be sent.
func (b burst) room() bool {
	return len(b) < api.MaxBurst
}

// add: a frame is sent, if it can be.
func (b *burst) add(f frame.Frame) {
	if bytes, code := frame.Encode(f); code == api.OK {
		*b = append(*b, bytes)
	}
}

// Send: what it sends in a step; ErrNil, ErrOff, ErrArg.
func (n *Node) Send(step, jitter int) ([][]byte, api.Errno) {
	if code := n.stamps(jitter); code != api.OK {
		return nil, code
	}
	if !n.setup.Plan.Mine(step) {
		return nil, api.OK
	}
	stamp := n.stamp(jitter)
	var out burst
	if word, ok := n.flood.Beat(stamp); ok {
		out.add(word)
	}
	n.source.Beat()
	if n.pair.Beat() {
		n.level.Lose()
	}
	n.answer(&out, stamp)
	n.ask(&out, stamp)
	return out, api.OK
}

// answer: the answers that wait are sent, as long as there is room.
func (n *Node) answer(out *burst, stamp int) {
	for out.room() {
		j, ok := n.jobs.Pop()
		if !ok {
			return
		}
		if f, ok := j.made(n, stamp); ok {
			out.add(f)
		}
	}
}

// ask: who isn't synced seeks somebody who knows the time, or asks whom it found, if there is room.
func (n *Node) ask(out *burst, stamp int) {
	if n.flood.Synced() || !out.room() {
		return
	}
	parent := n.level.Parent()
	if parent < 0 {
		out.add(frame.Want{From: n.setup.Me})
		return
	}
	if f, ok := n.pair.Ask(parent, stamp); ok {
		out.add(f)
	}
}

// Hear: bytes come; ErrNil, ErrOff, ErrArg, ErrLong, ErrForm, ErrSum, ErrFull.
func (n *Node) Hear(jitter int, b ...byte) api.Errno {
	if code := n.stamps(jitter); code != api.OK {
		return code
	}
	f, code := frame.Decode(b...)
	if code != api.OK {
		return code
	}
	if f.Sender() == n.setup.Me {
		return api.OK
	}
	return n.heed(f, n.stamp(jitter))
}

// heed: a frame of somebody else comes; ErrFull: there is no room for an answer.
func (n *Node) heed(f frame.Frame, stamp int) api.Errno {
	switch f := f.(type) {
	case frame.Sync:
		n.flood.Hear(f, stamp)
	case frame.Find:
		if !n.flood.Synced() {
			n.level.Hear(f)
		}
	case frame.Want:
		return n.wanted(stamp)
	case frame.Pulse:
		return n.pulsed(f, stamp)
	case frame.Reply:
		if e, ok := n.pair.Hear(f, stamp); ok {
			n.source.Put(e, source.Whose{Root: f.Root, Boot: f.Boot})
		}
	case frame.Anchor:
		if n.book.Hear(f) {
			return n.spread()
		}
	}
	return api.OK
}

// wanted: somebody seeks who knows the time; ErrFull.
func (n *Node) wanted(stamp int) api.Errno {
	if _, code := n.timeAt(stamp); code != api.OK {
		return api.OK
	}
	return n.jobs.Push(find{})
}

// pulsed: somebody is asked for the time; ErrFull.
func (n *Node) pulsed(f frame.Pulse, stamp int) api.Errno {
	if f.To != n.setup.Me {
		return api.OK
	}
	came, code := n.timeAt(stamp)
	if code != api.OK {
		return api.OK
	}
	return n.jobs.Push(reply{to: f.From, sent: f.Sent, came: came})
}

// spread: the book's anchor is to be said on; ErrFull.
func (n *Node) spread() api.Errno {
	for j := range n.jobs.All() {
		if _, ok := j.(tie); ok {
			// What waits tells the book's newest one, whichever that is then.
			return api.OK
		}
	}
	return n.jobs.Push(tie{})
}

// stamps: whether it is on, and a stamp may be so wrong; ErrNil, ErrOff, ErrArg.
func (n *Node) stamps(jitter int) api.Errno {
	if code := n.alive(); code != api.OK {
		return code
	}
	if jitter < -n.setup.Jitter || jitter > n.setup.Jitter {
		return api.ErrArg
	}
	return api.OK
}

// stamp: the clock's time, as wrong as told, where that is a time.
func (n *Node) stamp(jitter int) int {
	return fix.Clamp(n.clock.Now()+jitter, 0, api.MaxTime)
}
