package node

import (
	"angelus/api"
	"angelus/frame"
	"angelus/source"
)

// job is an answer that waits till the node may send.
type job interface {
	// made answers what a node sends of it, at a stamp; false: nothing.
	made(n *Node, stamp int) (frame.Frame, bool)
}

// find waits for those that seek who knows the time.
type find struct{}

// tie waits for those that weren't told of the book's anchor.
type tie struct{}

// reply waits for who sent a pulse: when that was sent, and what the root's time was as it came.
type reply struct {
	to   int
	sent int
	came source.Answer
}

func (find) made(n *Node, stamp int) (frame.Frame, bool) {
	if _, code := n.timeAt(stamp); code != api.OK {
		return nil, false
	}
	return n.level.Tell(n.flood.Synced())
}

func (tie) made(n *Node, _ int) (frame.Frame, bool) {
	a, ok := n.book.Has()
	a.From = n.setup.Me
	return a, ok
}

func (r reply) made(n *Node, stamp int) (frame.Frame, bool) {
	back, code := n.timeAt(stamp)
	// Two clocks' times have nothing to do with each other.
	if code != api.OK || back.Whose != r.came.Whose {
		return nil, false
	}
	return frame.Reply{
		From: n.setup.Me, To: r.to, Sent: r.sent, Got: r.came.Time, Back: back.Time,
		Root: back.Whose.Root, Boot: back.Whose.Boot, Hops: max(r.came.Hops, back.Hops),
	}, true
}
