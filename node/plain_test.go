package node

import (
	"math"

	"angelus/api"
	"angelus/bound"
	"angelus/elect"
	"angelus/event"
	"angelus/frame"
	"angelus/globe"
	"angelus/leap"
	"angelus/source"
	"angelus/table"
	"angelus/utc"
)

const (
	least    = math.MinInt
	greatest = math.MaxInt
	top      = 1 << 50 // the greatest time
)

// The kinds of answers that wait.
const (
	someFind = iota
	someTie
	someReply
)

// waiting is an answer that waits: to which pulse, and what the time was as it came, if it is a reply.
type waiting struct {
	what  int
	pulse frame.Pulse
	came  source.Answer
}

// put is what was asked of somebody, and how many rounds ago that came.
type put struct {
	entry table.Entry
	whose source.Whose
	age   int
}

// life is all that a node has in one life, as the chapters' words tell it.
type life struct {
	now     int
	last    int // the number of its last word
	root    int
	waited  int
	deaf    int
	marks   map[int]elect.Mark
	entries []table.Entry // all that were added since the table was empty
	heard   frame.Sync    // the word that it took last, and when
	at      int
	level   int
	parent  int
	pulse   []frame.Pulse // that which it waits for, if it does
	rounds  int
	vain    int
	rests   int
	asked   []put // what was asked, if something was
	anchors []frame.Anchor
	events  []event.Event
	tagged  int
	jobs    []waiting
}

// plain is a node that reckons by the chapters' words, without the parts of which nodes are made.
type plain struct {
	none  bool
	s     Setup
	leaps *leap.Table
	on    bool
	boot  uint16
	life
}

// time: whether a number can be a time.
func time(n int) bool {
	return n > -1 && n <= 1125899906842624
}

// newer: whether the first of two numbers that go round is so, counted as they can be at all.
func newer(a, b uint16) bool {
	ahead := (int(a) - int(b) + 65536) % 65536
	return 1 <= ahead && ahead <= 32767
}

// halved is half of a number, rounded down.
func halved(n int) int {
	if n < 0 && n%2 != 0 {
		return n/2 - 1
	}
	return n / 2
}

func (p *plain) alive() api.Errno {
	switch {
	case p.none:
		return api.ErrNil
	case !p.on:
		return api.ErrOff
	}
	return api.OK
}

func (p *plain) begin(raw uint32) api.Errno {
	if p.none {
		return api.ErrNil
	}
	p.on = true
	p.boot = uint16((int(p.boot) + 1) % 65536)
	p.life = life{now: int(raw), root: -1, marks: map[int]elect.Mark{}, level: -1, parent: -1}
	return api.OK
}

func (p *plain) off() api.Errno {
	if code := p.alive(); code != api.OK {
		return code
	}
	p.on = false
	return api.OK
}

func (p *plain) fits(ticks int) bool {
	d := p.s.Rules.Drift
	return !p.none && ticks > 999-d && ticks < 1001+d
}

func (p *plain) goes(ticks int) api.Errno {
	if code := p.alive(); code != api.OK {
		return code
	}
	if !p.fits(ticks) {
		return api.ErrArg
	}
	if !time(p.now + ticks) {
		return api.ErrOver
	}
	p.now += ticks
	return api.OK
}

func (p *plain) mine() bool {
	return p.on && p.root == p.s.Me
}

func (p *plain) count() int {
	return min(len(p.entries), 8)
}

func (p *plain) synced() bool {
	return p.on && (p.mine() || p.count() >= p.s.Rules.Need)
}

// flooded is the flood's time; its map is layer 14's, of the last eight entries.
func (p *plain) flooded(local int) (int, int, api.Errno) {
	switch {
	case !p.synced():
		return 0, 0, api.ErrUnsync
	case !time(local):
		return 0, 0, api.ErrOver
	case p.mine():
		return local, 0, api.OK
	}
	var known table.Table
	for _, e := range p.entries[len(p.entries)-p.count():] {
		known.Add(e)
	}
	m, _ := globe.Of(p.s.Rules.Drift, &known)
	global, ok := m.Global(local)
	if !ok {
		return 0, 0, api.ErrOver
	}
	return global, m.Hops, api.OK
}

func (p *plain) mark() (elect.Mark, bool) {
	if p.none || !p.on || p.root < 0 {
		return elect.Mark{}, false
	}
	if p.mine() {
		return elect.Mark{Boot: p.boot, Seq: uint16(p.last)}, p.last != 0
	}
	return p.marks[p.root], true
}

// timeAt is the source's time.
func (p *plain) timeAt(local int) (source.Answer, api.Errno) {
	if p.synced() {
		at, hops, code := p.flooded(local)
		if code != api.OK {
			return source.Answer{}, code
		}
		m, _ := p.mark()
		way := source.Flooded
		if p.mine() {
			way = source.Own
		}
		return source.Answer{Time: at, Hops: hops, Whose: source.Whose{Root: p.root, Boot: m.Boot}, Way: way}, api.OK
	}
	if len(p.asked) == 0 {
		return source.Answer{}, api.ErrUnsync
	}
	a := p.asked[0]
	if !time(local) || !time(local+a.entry.Offset) {
		return source.Answer{}, api.ErrOver
	}
	return source.Answer{Time: local + a.entry.Offset, Hops: a.entry.Hops, Whose: a.whose, Way: source.Asked}, api.OK
}

func (p *plain) time() (source.Answer, api.Errno) {
	if code := p.alive(); code != api.OK {
		return source.Answer{}, code
	}
	return p.timeAt(p.now)
}

func (p *plain) awake() bool {
	if p.none || !p.on {
		return false
	}
	at, hops, code := p.flooded(p.now)
	if code != api.OK {
		return true
	}
	d := p.s.Plan
	guard := bound.Terms{Drift: p.s.Rules.Drift, Jitter: p.s.Jitter, Timeout: p.s.Rules.Timeout, Round: d.Round}.Error(hops)
	phase := at % (1000 * d.Round)
	return phase < 1000*d.Open+guard || phase >= 1000*d.Round-guard
}

// stamps: whether a jitter can be, and the stamp with it.
func (p *plain) stamps(jitter int) (int, api.Errno) {
	if code := p.alive(); code != api.OK {
		return 0, code
	}
	if jitter > p.s.Jitter || jitter < -p.s.Jitter {
		return 0, api.ErrArg
	}
	return max(0, min(p.now+jitter, top)), api.OK
}

func (p *plain) send(step, jitter int) ([]frame.Frame, api.Errno) {
	stamp, code := p.stamps(jitter)
	if code != api.OK {
		return nil, code
	}
	if step < 0 || step%p.s.Plan.Round != p.s.Plan.Own {
		return nil, api.OK
	}
	var out []frame.Frame
	if f, ok := p.word(stamp); ok {
		out = append(out, f)
	}
	if len(p.asked) > 0 {
		if p.asked[0].age++; p.asked[0].age == p.s.Limit {
			p.asked = nil
		}
	}
	if p.pairBeat() {
		p.level, p.parent = -1, -1
	}
	for len(p.jobs) > 0 && len(out) < 3 {
		j := p.jobs[0]
		p.jobs = p.jobs[1:]
		if f, ok := p.made(j, stamp); ok && frame.Good(f) {
			out = append(out, f)
		}
	}
	if len(out) == 3 || p.synced() {
		return out, api.OK
	}
	if p.parent == -1 {
		return append(out, frame.Want{From: p.s.Me}), api.OK
	}
	if len(p.pulse) == 0 && p.rests == 0 {
		f := frame.Pulse{From: p.s.Me, To: p.parent, Sent: stamp}
		p.pulse, p.rounds = []frame.Pulse{f}, 0
		out = append(out, f)
	}
	return out, api.OK
}

// word is the flood's Beat.
func (p *plain) word(stamp int) (frame.Sync, bool) {
	if p.mine() {
		p.deaf = max(0, p.deaf-1)
	} else if p.waited++; p.waited == p.s.Rules.Timeout {
		p.root, p.waited, p.deaf, p.entries = p.s.Me, 0, p.s.Rules.Ignore, nil
	}
	if p.mine() {
		p.last = (p.last + 1) % 65536
		return frame.Sync{From: p.s.Me, Root: p.s.Me, Boot: p.boot, Seq: uint16(p.last), Time: stamp}, true
	}
	f := p.heard
	f.From, f.Hops, f.Time = p.s.Me, f.Hops+1, f.Time+stamp-p.at
	return f, p.synced() && f.Time >= 0 && f.Time <= top
}

// pairBeat is the pair's Beat.
func (p *plain) pairBeat() bool {
	if len(p.pulse) == 0 {
		p.rests = max(0, p.rests-1)
		return false
	}
	if p.rounds++; p.rounds < 2 {
		return false
	}
	p.pulse = nil
	p.vain++
	switch p.vain {
	case 1:
		p.rests = 1
	case 2:
		p.rests = 3
	case 3:
		p.vain = 0
		return true
	}
	return false
}

// made is what is made of an answer that waits.
func (p *plain) made(j waiting, stamp int) (frame.Frame, bool) {
	if j.what == someTie {
		if len(p.anchors) == 0 {
			return nil, false
		}
		a := p.anchors[len(p.anchors)-1]
		a.From = p.s.Me
		return a, true
	}
	now, code := p.timeAt(stamp)
	if code != api.OK {
		return nil, false
	}
	if j.what == someFind {
		if p.synced() {
			return frame.Find{From: p.s.Me}, true
		}
		return frame.Find{From: p.s.Me, Level: p.level}, p.level != -1
	}
	f := frame.Reply{From: p.s.Me, To: j.pulse.From, Sent: j.pulse.Sent, Got: j.came.Time, Back: now.Time, Root: now.Whose.Root, Boot: now.Whose.Boot, Hops: now.Hops}
	if j.came.Hops > f.Hops {
		f.Hops = j.came.Hops
	}
	return f, j.came.Whose == now.Whose
}

func (p *plain) hear(jitter int, b ...byte) api.Errno {
	stamp, code := p.stamps(jitter)
	if code != api.OK {
		return code
	}
	f, code := frame.Decode(b...)
	if code != api.OK {
		return code
	}
	if f.Sender() == p.s.Me {
		return api.OK
	}
	switch f := f.(type) {
	case frame.Sync:
		p.hearSync(f, stamp)
	case frame.Find:
		p.hearFind(f)
	case frame.Want:
		if _, code := p.timeAt(stamp); code == api.OK {
			return p.wait(waiting{what: someFind})
		}
	case frame.Pulse:
		if came, code := p.timeAt(stamp); code == api.OK && f.To == p.s.Me {
			return p.wait(waiting{what: someReply, pulse: f, came: came})
		}
	case frame.Reply:
		p.hearReply(f, stamp)
	case frame.Anchor:
		if len(p.anchors) == 0 || newer(f.Seq, p.anchors[len(p.anchors)-1].Seq) {
			p.anchors = append(p.anchors, f)
			return p.waitTie()
		}
	}
	return api.OK
}

// wait: one more answer waits, if there is room.
func (p *plain) wait(j waiting) api.Errno {
	if len(p.jobs) == 8 {
		return api.ErrFull
	}
	p.jobs = append(p.jobs, j)
	return api.OK
}

func (p *plain) waitTie() api.Errno {
	for _, j := range p.jobs {
		if j.what == someTie {
			return api.OK
		}
	}
	return p.wait(waiting{what: someTie})
}

func (p *plain) hearSync(f frame.Sync, stamp int) {
	if f.Hops == 63 || f.Root >= p.s.Me || p.mine() && p.deaf > 0 || p.root >= 0 && !p.mine() && f.Root > p.root {
		return
	}
	had, ok := p.marks[f.Root]
	if ok && !newer(f.Boot, had.Boot) && (f.Boot != had.Boot || !newer(f.Seq, had.Seq)) {
		return
	}
	moved := f.Root != p.root || !ok || f.Boot != had.Boot
	p.marks[f.Root] = elect.Mark{Boot: f.Boot, Seq: f.Seq}
	p.root, p.waited = f.Root, 0
	if moved || len(p.entries) > 0 && p.entries[len(p.entries)-1].Local >= stamp {
		p.entries = nil
	}
	p.entries = append(p.entries, table.Entry{Local: stamp, Offset: f.Time - stamp, Hops: f.Hops + 1})
	p.heard, p.at = f, stamp
}

func (p *plain) hearFind(f frame.Find) {
	if p.synced() {
		return
	}
	if f.Level == 63 {
		if f.From == p.parent {
			p.level, p.parent = -1, -1
		}
		return
	}
	if f.From == p.parent || p.level == -1 || p.level > f.Level+1 {
		p.level, p.parent = f.Level+1, f.From
	}
}

func (p *plain) hearReply(f frame.Reply, stamp int) {
	if len(p.pulse) == 0 || f.To != p.s.Me || f.From != p.pulse[0].To || f.Sent != p.pulse[0].Sent || f.Hops == 63 || stamp < f.Sent {
		return
	}
	e := table.Entry{Local: stamp, Offset: halved((f.Got - f.Sent) + (f.Back - stamp)), Hops: f.Hops + 1}
	p.pulse, p.vain = nil, 0
	p.asked = []put{{entry: e, whose: source.Whose{Root: f.Root, Boot: f.Boot}}}
}

func (p *plain) tag(label string) (int, api.Errno) {
	when, code := p.time()
	if code != api.OK {
		return 0, code
	}
	if !event.Good(label) {
		return 0, api.ErrArg
	}
	if len(p.events) == 16 {
		return 0, api.ErrFull
	}
	p.tagged++
	p.events = append(p.events, event.Event{ID: p.tagged, Label: label, Local: p.now, When: when})
	return p.tagged, api.OK
}

func (p *plain) take() (event.Event, bool) {
	if p.none || !p.on || len(p.events) == 0 {
		return event.Event{}, false
	}
	e := p.events[0]
	p.events = p.events[1:]
	return e, true
}

func (p *plain) fix(tai int) api.Errno {
	if code := p.alive(); code != api.OK {
		return code
	}
	if !p.s.Gate {
		return api.ErrNone
	}
	when, code := p.timeAt(p.now)
	if code != api.OK {
		return code
	}
	if !time(tai) {
		return api.ErrArg
	}
	a := frame.Anchor{From: p.s.Me, Seq: 1, Root: when.Whose.Root, Boot: when.Whose.Boot, Global: when.Time, Tai: tai}
	if len(p.anchors) > 0 {
		a.Seq = uint16((int(p.anchors[len(p.anchors)-1].Seq) + 1) % 65536)
	}
	p.anchors = append(p.anchors, a)
	return p.waitTie()
}

func (p *plain) utc() (utc.Utc, int, api.Errno) {
	when, code := p.time()
	if code != api.OK {
		return utc.Utc{}, 0, code
	}
	if len(p.anchors) == 0 {
		return utc.Utc{}, 0, api.ErrNone
	}
	a := p.anchors[len(p.anchors)-1]
	if when.Whose != (source.Whose{Root: a.Root, Boot: a.Boot}) {
		return utc.Utc{}, 0, api.ErrUnsync
	}
	// Moved far up by whole seconds, so that the division rounds down.
	const far = 1 << 52
	ahead := when.Time - a.Global + 1000*far
	u, code := utc.Of(p.leaps, a.Tai+ahead/1000-far)
	if code != api.OK {
		return utc.Utc{}, 0, code
	}
	return u, ahead % 1000, api.OK
}

func (p *plain) status() Status {
	if p.none || !p.on {
		return Status{Boot: p.boot}
	}
	return Status{
		On: true, Boot: p.boot, Now: p.now, Root: p.root, Mine: p.root == p.s.Me, Synced: p.synced(), Entries: p.count(),
		Level: p.level, Parent: p.parent, Waits: len(p.pulse) == 1, Jobs: len(p.jobs), Events: len(p.events),
	}
}
