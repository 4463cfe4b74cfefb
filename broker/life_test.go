package broker_test

import (
	"fmt"
	"math/rand"
	"slices"
	"testing"

	"mailbag/api"
	"mailbag/broker"
	"mailbag/disk"
	"mailbag/docs"
	"mailbag/patch"
	"mailbag/txn"
	"mailbag/val"
	"mailbag/wire"
)

// lease is a message that a session was told of.
type lease struct{ queue, id, token string }

// watcher polls a prefix, from mark to mark, whatever becomes of the power.
type watcher struct {
	prefix string
	n      int
	mark   int
	told   []string
}

// life is a broker of which sessions ask at random, beside what it is to answer.
type life struct {
	t        *testing.T
	r        *rand.Rand
	d        *disk.Disk
	b        *broker.Broker
	m        *model
	leases   []lease
	saved    []int // Lows that were saved: one of them is on the disk
	watchers []*watcher
	counts   // of all that was come to
}

// counts are how often the disk was full, the power failed, and a commit was kept that wasn't answered.
type counts struct{ full, fell, kept int }

// add adds others.
func (c *counts) add(o counts) {
	c.full, c.fell, c.kept = c.full+o.full, c.fell+o.fell, c.kept+o.kept
}

// one is one of some texts.
func (l *life) one(list ...string) string { return list[l.r.Intn(len(list))] }

// number is one of some numbers; 0 and great ones are few, as they are errors mostly.
func (l *life) number() int {
	if l.r.Intn(12) == 0 {
		return []int{0, 100, 101, 1 << 20}[l.r.Intn(4)]
	}
	return 1 + l.r.Intn(9)
}

// coll is a collection's name, c mostly.
func (l *life) coll() string {
	if l.r.Intn(10) == 0 {
		return l.one("b", "none", "")
	}
	return "c"
}

// value is a value's bytes, of a document mostly.
func (l *life) value() string {
	if l.r.Intn(20) == 0 {
		return l.one("", "\xff", num(l.t, 1), doc(l.t, 1)+"\x00")
	}
	v := val.OfMap()
	if l.r.Intn(4) > 0 {
		v = v.With("n", val.OfInt(int64(l.r.Intn(5))))
	}
	if l.r.Intn(4) == 0 {
		v = v.With("u", val.OfInt(int64(l.r.Intn(5))))
	}
	return code(l.t, v)
}

// ops are operations' bytes.
func (l *life) ops() string {
	if l.r.Intn(20) == 0 {
		return l.one("", "\xff", "\x00\x00")
	}
	x := patch.Op{Kind: patch.Kind(1 + l.r.Intn(3)), Path: []string{l.one("n", "u", "x")}}
	if x.Kind != patch.Drop {
		x.Val = val.OfInt(int64(l.r.Intn(3)))
	}
	return opsOf(l.t, x)
}

// lease is a message that was told of, or another one.
func (l *life) lease() lease {
	if len(l.leases) == 0 || l.r.Intn(20) == 0 {
		return lease{l.one("q", "d", "none"), l.one("", "x"), l.one("", "x")}
	}
	x := l.leases[max(0, len(l.leases)-1-l.r.Intn(4))]
	if l.r.Intn(20) == 0 {
		x.queue = l.one("q", "d")
	}
	return x
}

// often are the questions that are asked more often than others.
var often = []wire.Op{wire.Begin, wire.Begin, wire.Begin, wire.Commit, wire.Commit, wire.Put, wire.Put, wire.Patch, wire.Get, wire.Send, wire.Take, wire.Take, wire.Ack, wire.Nack, wire.Extend}

// question is a question, one that a session asks whose transaction is open, or isn't, mostly.
func (l *life) question(open bool) wire.Ask {
	a := wire.Ask{Op: often[l.r.Intn(len(often))], N: l.number(), M: l.number()}
	if l.r.Intn(4) == 0 {
		a.Op = wire.Op(1 + l.r.Intn(19))
	}
	if open == (a.Op == wire.Begin) && l.r.Intn(4) > 0 {
		a.Op = map[bool]wire.Op{true: wire.Commit, false: wire.Begin}[open]
	}
	switch a.Op {
	case wire.MakeColl:
		a.A, a.B = l.one("c", "c", "b", "b", ""), l.one(coll().Encode(), coll().Encode(), "\x00", "\x00", "x")
	case wire.Put, wire.Delete, wire.Get, wire.Patch, wire.Scan:
		a.A, a.B = l.coll(), l.one("1", "2", "3")
		a.C = l.value()
		if a.Op == wire.Patch {
			a.C = l.ops()
		}
		if a.Op == wire.Put {
			a.B = l.one("1", "2", "3", "1", "2", "3", "4", "5", "6", "")
			a.N = (l.m.now + a.N) * l.r.Intn(2)
		}
	case wire.Query:
		a.A, a.B = l.coll(), l.one("i", "i", "u", "none")
		a.C, a.D = num(l.t, int64(l.r.Intn(3))), num(l.t, int64(l.r.Intn(6)))
	case wire.MakeQueue:
		a.A, a.B = l.one("q", "q", "d", "x", "x", ""), l.one("d", "d", "", "x")
	case wire.Send:
		a.A, a.B = l.one("q", "q", "q", "d", "x"), fmt.Sprint("body ", l.r.Intn(1000))
		a.N *= l.r.Intn(2)
	case wire.Take:
		a.A = l.one("q", "q", "q", "d", "x")
	case wire.Ack, wire.Nack, wire.Extend:
		x := l.lease()
		a.A, a.B, a.C = x.queue, x.id, x.token
	case wire.Watch:
		a.N = l.r.Intn(len(l.m.made)+3) * l.r.Intn(2)
		if l.r.Intn(3) > 0 {
			a.N = len(l.m.made)
		}
	case wire.Poll, wire.Unwatch:
		a.A, a.N = l.one("", "m", "d", "i", "x"), max(len(l.watchers)+1, l.m.given+1-l.r.Intn(10)) // not of the watchers' own
	}
	return a
}

// ask lets a session ask, and holds the answer to the model's.
func (l *life) ask(session int, s string) wire.Answer {
	l.t.Helper()
	x := l.m.txns[session]
	w := l.b.Do(session, s)
	switch w.E {
	case api.ErrDown:
		l.committing(x)
		l.crash(x)
	case api.ErrFull:
		l.full++
		l.committing(x)
		l.m.end(session)
	default:
		wantAnswer(l.t, fmt.Sprintf("session %d asks %q", session, s), w, l.m.do(session, s))
	}
	return w
}

// committing holds a transaction to be one that the disk is asked to keep.
func (l *life) committing(x *txn.Txn) {
	l.t.Helper()
	if x == nil || l.m.written(x) || len(x.Writes()) == 0 {
		l.t.Error("the disk is asked for nothing, but tells an error")
	}
}

// anyAsk is a session that asks something.
func (l *life) anyAsk() {
	l.t.Helper()
	session := l.r.Intn(4) // few, so that they get far
	a := l.question(l.b.Open(session))
	s := bytesOf(l.t, a)
	switch l.r.Intn(50) {
	case 0:
		session = []int{-1, 16, 4, 15}[l.r.Intn(4)]
	case 1:
		s = s[:l.r.Intn(len(s))]
	}
	w := l.ask(session, s)
	switch {
	case w.E != api.OK:
	case a.Op == wire.Take:
		l.leases = append(l.leases, lease{a.A, w.Texts[0], w.Texts[1]})
	case a.Op == wire.Send && l.r.Intn(10) == 0:
		l.leases = append(l.leases, lease{a.A, w.Texts[0], ""})
	}
}

// poll lets a watcher poll.
func (l *life) poll(x *watcher, most int) {
	l.t.Helper()
	w := l.ask(l.r.Intn(16), bytesOf(l.t, wire.Ask{Op: wire.Poll, N: x.n, A: x.prefix, M: most}))
	if want(l.t, "Poll", w.E, api.OK); w.E == api.OK {
		x.mark, x.told = w.N, append(x.told, w.Texts...)
	}
}

// watch lets all watchers hold the marks that they know.
func (l *life) watch() {
	l.t.Helper()
	for i, x := range l.watchers {
		w := l.ask(i, bytesOf(l.t, wire.Ask{Op: wire.Watch, N: x.mark}))
		want(l.t, "Watch", w.E, api.OK)
		x.n = w.N
	}
}

// reap is a Reap.
func (l *life) reap() {
	l.t.Helper()
	most := l.number()
	x := l.m.begin()
	n, e := l.b.Reap(most)
	is, f := docs.Reap(x, min(most, 20))
	want(l.t, "documents", f, api.OK)
	switch e {
	case api.ErrDown:
		l.committing(x)
		l.crash(x)
	case api.ErrFull:
		l.full++
		l.committing(x)
	default:
		want(l.t, "Reap", e, api.OK)
		wantNum(l.t, "Reap", n, is)
		l.m.take(x)
	}
}

// save is a Save; if the power fails, what was saved last is one of two.
func (l *life) save() {
	l.t.Helper()
	switch e := l.b.Save(); e {
	case api.OK:
		l.saved = []int{l.m.low}
	case api.ErrFull:
	default:
		want(l.t, "Save", e, api.ErrDown)
		l.saved = append(l.saved, l.m.low)
		l.crash(nil)
	}
}

// crash starts a broker of what the disk keeps, as often as that takes; a transaction was being committed, or none.
func (l *life) crash(x *txn.Txn) {
	l.t.Helper()
	now := max(0, l.m.now-l.r.Intn(3))
	for {
		l.d = l.d.Crash([]int{l.r.Intn(60) + l.r.Intn(2)*500, l.r.Intn(300), l.r.Intn(300)})
		if l.r.Intn(2) == 0 {
			l.d.Fall(l.r.Intn(4))
		}
		b, e := broker.Start(l.d, now)
		if l.fell++; e == api.ErrDown {
			if b != nil {
				l.t.Error("a broker")
			}
			continue
		}
		want(l.t, "Start", e, api.OK)
		l.b = b
		break
	}
	if last := l.b.Store().Last(); x != nil && last == len(l.m.made)+1 { // it was kept, though that wasn't answered
		l.m.made = append(l.m.made, l.m.commitOf(x))
		l.kept++
	}
	m := newModel(l.t, now)
	m.made, m.low = l.m.made, l.b.Store().Low()
	if !slices.Contains(l.saved, m.low) {
		l.t.Errorf("Low is %d, saved were %d", m.low, l.saved)
	}
	l.saved = []int{m.low}
	if n := len(m.made); n > m.low {
		m.at = m.made[n-1].At
	}
	m.now = max(m.now, m.at)
	l.m = m
	l.m.check("behind a loss of power", l.b)
	l.watch()
}

// step is something that happens.
func (l *life) step(falls bool) {
	l.t.Helper()
	switch l.r.Intn(40) {
	case 0:
		l.save()
	case 1:
		want(l.t, "Clean", l.b.Clean(), api.OK)
		l.m.low = max(l.m.low, l.m.horizon())
	case 2:
		l.reap()
	case 3, 4, 5:
		n := l.r.Intn(4)
		want(l.t, "Tick", l.b.Tick(n), api.OK)
		l.m.now += n
	case 6, 7, 8:
		l.poll(l.watchers[l.r.Intn(len(l.watchers))], 1+l.r.Intn(4))
	case 9:
		if falls {
			l.d.Fall(l.r.Intn(6))
		}
	case 10:
		l.m.check("behind a step", l.b)
	default:
		l.anyAsk()
	}
}

// all polls till there is nothing more, and holds what was told to be each commit that wrote such keys, once, in order.
func (x *watcher) all(l *life) {
	l.t.Helper()
	for x.mark < len(l.m.made) {
		l.poll(x, 3)
	}
	m := newModel(l.t, 0)
	m.made, m.marks[1] = l.m.made, 0
	var is []string
	for m.marks[1] < len(m.made) {
		is = append(is, m.poll(wire.Ask{N: 1, A: x.prefix, M: 100}).Texts...)
	}
	wantText(l.t, "told of "+x.prefix, fmt.Sprintf("%q", x.told), fmt.Sprintf("%q", is))
}

// empty lets a queue get empty: all transactions ended, all times gone by, whoever takes and acks as often as there are messages.
func (l *life) empty(name string) {
	l.t.Helper()
	for session := range 16 {
		if l.b.Open(session) {
			l.ask(session, bytesOf(l.t, abort))
		}
	}
	n := min(1<<30, api.MaxTime-l.m.now)
	want(l.t, "Tick", l.b.Tick(n), api.OK)
	l.m.now += n
	for range l.b.Live(name) {
		asks(l.t, l.b, 7, begin)
		w := l.b.Do(7, bytesOf(l.t, wire.Ask{Op: wire.Take, A: name, N: 9}))
		if w.E == api.OK {
			asks(l.t, l.b, 7, wire.Ask{Op: wire.Ack, A: name, B: w.Texts[0], C: w.Texts[1]})
		} else {
			want(l.t, "Take", w.E, api.ErrNone)
		}
		asks(l.t, l.b, 7, commit)
	}
	wantNum(l.t, "Live of "+name, l.b.Live(name), 0)
	list, e := l.b.Store().Since(len(l.m.made))
	want(l.t, "Since", e, api.OK)
	l.m.made = append(l.m.made, list...)
}

// live lets so much happen, over a disk of so much room.
func live(t *testing.T, seed int64, room, steps int, falls bool) *life {
	t.Helper()
	l := &life{t: t, r: rand.New(rand.NewSource(seed)), d: disk.New(room), m: newModel(t, 3), saved: []int{0}}
	l.b = over(t, l.d, 3)
	for _, prefix := range []string{"", "m", coll().Docs()} {
		l.watchers = append(l.watchers, &watcher{prefix: prefix})
	}
	l.watch()
	for _, a := range append(append([]wire.Ask{begin}, makes()...), commit) {
		l.ask(0, bytesOf(t, a))
	}
	for range steps {
		if l.step(falls); t.Failed() {
			t.Fatal("seed", seed)
		}
	}
	l.m.check("at the end", l.b)
	return l
}

// P1, P19.1 to P19.4: whatever sessions ask, in whichever order, whatever time goes by: all answers are those of the model.
func TestLife(t *testing.T) {
	commits := 0
	for seed := range int64(60) {
		l := live(t, seed, disk.MaxRoom, 700, false)
		for _, x := range l.watchers {
			x.all(l)
		}
		l.empty("q")
		l.empty("d")
		commits += len(l.m.made)
	}
	if commits < 2000 {
		t.Error("few commits:", commits)
	}
}

// P1, P2, P4, P5: the power fails, again and again, also while a broker is started.
func TestPowerFails(t *testing.T) {
	var c counts
	for seed := range int64(60) {
		l := live(t, 1000+seed, disk.MaxRoom, 700, true)
		l.d.Fall(1 << 30)
		for _, x := range l.watchers {
			x.all(l)
		}
		l.empty("q")
		l.empty("d")
		for _, x := range l.watchers {
			x.all(l)
		}
		c.add(l.counts)
	}
	if c.fell < 500 || c.kept < 50 {
		t.Error("little was come to:", c)
	}
}

// P1: the disk is full, again and again.
func TestFullDisk(t *testing.T) {
	var c counts
	for seed := range int64(40) {
		l := live(t, 2000+seed, 500+100*int(seed), 700, seed%2 == 0)
		l.d.Fall(1 << 30)
		for _, x := range l.watchers {
			x.all(l)
		}
		c.add(l.counts)
	}
	if c.full < 300 || c.fell < 100 {
		t.Error("little was come to:", c)
	}
}

// P5: what is cleaned away turns no answer, but of a Watch ahead of it: a life is the same with cleaning, and without.
func TestCleanTurnsNothing(t *testing.T) {
	cleaned := 0
	for seed := range int64(20) {
		r := rand.New(rand.NewSource(seed))
		l := &life{t: t, r: r, m: newModel(t, 10)}
		one, other := fresh(t), fresh(t)
		for _, a := range append(append([]wire.Ask{begin}, makes()...), commit) {
			asks(t, one, 0, a)
			asks(t, other, 0, a)
		}
		for range 400 {
			session := r.Intn(4)
			a := l.question(one.Open(session))
			if a.Op == wire.Watch {
				a.N = one.Store().Last()
			}
			s := bytesOf(t, a)
			w := one.Do(session, s)
			wantAnswer(t, fmt.Sprint(session, a), other.Do(session, s), w)
			if w.E == api.OK && a.Op == wire.Take {
				l.leases = append(l.leases, lease{a.A, w.Texts[0], w.Texts[1]})
			}
			if a.Op == wire.Watch && w.E == api.OK {
				l.m.given = w.N
			}
			if r.Intn(5) == 0 {
				want(t, "Clean", one.Clean(), api.OK)
				want(t, "Tick", one.Tick(1), api.OK)
				want(t, "Tick", other.Tick(1), api.OK)
			}
			if s := bytesOf(t, wire.Ask{Op: wire.Unwatch, N: max(1, l.m.given)}); r.Intn(10) == 0 {
				wantAnswer(t, "Unwatch", other.Do(0, s), one.Do(0, s))
				l.m.given = max(0, l.m.given-1)
			}
		}
		wantNum(t, "Live", one.Live("q"), other.Live("q"))
		wantNum(t, "Low", other.Store().Low(), 0)
		cleaned += one.Store().Low()
	}
	if cleaned < 200 {
		t.Error("little was cleaned away:", cleaned)
	}
}
