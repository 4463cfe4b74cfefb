package world_test

import (
	"fmt"
	"math"
	"math/rand"
	"slices"
	"testing"

	"mailbag/api"
	"mailbag/broker"
	"mailbag/disk"
	"mailbag/schema"
	"mailbag/wire"
	"mailbag/world"
)

// lease is a message that was handed out.
type lease struct{ queue, id, token string }

// teller makes up steps at random, such as get far over the answers that it is told.
type teller struct {
	r      *rand.Rand
	open   [4]bool // sessions that have a transaction, as far as it was told
	leases []lease
	last   int // commit that it was told of
	given  int // marks
	others int // marks, the first ones, that somebody else polls of
}

// one is one of some texts.
func (x *teller) one(list ...string) string { return list[x.r.Intn(len(list))] }

// question is a question, one that a session asks whose transaction is open, or isn't, mostly.
func (x *teller) question(session int) wire.Ask {
	n := 1 + x.r.Intn(9)
	if !x.open[session] && x.r.Intn(8) > 0 {
		return begin
	}
	switch k := x.r.Intn(40); {
	case k < 10:
		return commit
	case k < 15:
		return put(x.one("1", "2", "3", "4"), n*100*x.r.Intn(2))
	case k < 20:
		return wire.Ask{Op: wire.Send, A: x.one("q", "q", "d"), B: fmt.Sprint("body ", x.r.Intn(100)), N: x.r.Intn(3)}
	case k < 26:
		return wire.Ask{Op: wire.Take, A: x.one("q", "q", "d"), N: n}
	case k < 32 && len(x.leases) > 0:
		l := x.leases[max(0, len(x.leases)-1-x.r.Intn(3))]
		op := []wire.Op{wire.Ack, wire.Ack, wire.Nack, wire.Extend}[x.r.Intn(4)]
		return wire.Ask{Op: op, A: l.queue, B: l.id, C: l.token, N: n}
	case k < 34:
		return wire.Ask{Op: wire.Scan, A: "c", N: n}
	case k < 35:
		return wire.Ask{Op: wire.Watch, N: max(0, x.last-x.r.Intn(4))}
	case k < 38:
		return wire.Ask{Op: wire.Poll, N: x.mark(), M: n, A: x.one("", "m", "d")}
	case k < 39:
		return wire.Ask{Op: wire.Unwatch, N: x.mark()}
	}
	return wire.Ask{Op: wire.Op(1 + x.r.Intn(17)), A: x.one("q", "c", "none", ""), B: x.one("1", "\x00", ""), C: put("", 0).C, N: n, M: n}
}

// mark is the number of a mark, one that was given last mostly.
func (x *teller) mark() int { return max(x.others+1, x.given-x.r.Intn(2)) }

// step is something that happens.
func (x *teller) step(falls bool) world.Step {
	s := world.Step{Kind: world.Ask, Session: x.r.Intn(4)}
	s.Text = bytesOf(x.question(s.Session))
	switch k := x.r.Intn(60); {
	case k < 4:
		s = world.Step{Kind: world.Tick, N: x.r.Intn(50) * x.r.Intn(3)}
	case k < 6:
		s = world.Step{Kind: world.Reap, N: x.r.Intn(9)}
	case k < 8:
		s = world.Step{Kind: world.Clean}
	case k < 10:
		s = world.Step{Kind: world.Save}
	case k < 13 && falls:
		s = world.Step{Kind: world.Fall, N: x.r.Intn(8)}
	case k < 17 && falls:
		s = world.Step{Kind: world.Crash, Keep: x.keep()}
	case k < 18:
		s.Text = x.one("", s.Text[:len(s.Text)-1], s.Text+"x")
	}
	return s
}

// keep is what a Crash keeps.
func (x *teller) keep() []int {
	list := []int{x.r.Intn(60) + 500*x.r.Intn(2), x.r.Intn(400), x.r.Intn(400), x.r.Intn(9)}
	return list[:x.r.Intn(5)]
}

// told tells it what a step was answered.
func (x *teller) told(s world.Step, w wire.Answer) {
	a, e := wire.ReadAsk(s.Text)
	switch {
	case s.Kind == world.Crash:
		x.open = [4]bool{}
		x.given = 0
	case s.Kind != world.Ask || e != api.OK:
	case a.Op == wire.Begin && w.E == api.OK:
		x.open[s.Session] = true
	case a.Op == wire.Commit, a.Op == wire.Abort, w.E == api.ErrArg, w.E == api.ErrLong:
		x.open[s.Session] = false
		x.last = max(x.last, w.N)
	case w.E != api.OK:
	case a.Op == wire.Take:
		x.leases = append(x.leases, lease{a.A, w.Texts[0], w.Texts[1]})
	case a.Op == wire.Watch:
		x.given = w.N
	}
}

// first are steps that make the collection c, and the queues q (2 times, then to d) and d.
func first() []world.Step {
	var list []world.Step
	for _, a := range []wire.Ask{
		begin,
		{Op: wire.MakeColl, A: "c", B: schema.Coll{Name: "c", Indexes: []schema.Index{{Name: "i", Field: "n"}}}.Encode()},
		{Op: wire.MakeQueue, A: "q", N: 2, B: "d"},
		{Op: wire.MakeQueue, A: "d", N: 3},
		commit,
	} {
		list = append(list, asking(0, a))
	}
	return list
}

// model is the chapter's world said once more: whether there is power is asked of the disk alone.
type model struct {
	d   *disk.Disk
	b   *broker.Broker
	now int
}

// start starts a broker.
func (m *model) start(d *disk.Disk) api.Errno {
	b, e := broker.Start(d, m.now)
	m.d, m.b, m.now = d, b, b.Now()
	return e
}

// do is what a step is to be answered.
func (m *model) do(s world.Step) wire.Answer {
	down := m.d.Down()
	switch {
	case s.Kind == world.Tick && (s.N < 0 || m.now+s.N > 1<<40):
		return wire.Answer{E: api.ErrArg}
	case s.Kind == world.Tick:
		m.now += s.N
		return wire.Answer{E: m.b.Tick(s.N)}
	case s.Kind == world.Fall:
		m.d.Fall(s.N)
		return wire.Answer{}
	case s.Kind == world.Crash:
		return wire.Answer{E: m.start(m.d.Crash(s.Keep))}
	case down:
		return wire.Answer{E: api.ErrDown}
	case s.Kind == world.Ask:
		return m.b.Do(s.Session, s.Text)
	case s.Kind == world.Reap:
		n, e := m.b.Reap(s.N)
		return wire.Answer{E: e, N: n}
	case s.Kind == world.Clean:
		return wire.Answer{E: m.b.Clean()}
	case s.Kind == world.Save:
		return wire.Answer{E: m.b.Save()}
	}
	return wire.Answer{E: api.ErrArg}
}

// wantLike holds a world to be as a model.
func wantLike(t *testing.T, w *world.World, m *model) {
	t.Helper()
	wantNum(t, "Now", w.Now(), m.now)
	b := w.Broker()
	if m.d.Down() {
		if b != nil {
			t.Error("a broker without power")
		}
		return
	}
	if b == nil {
		t.Fatal("no broker")
	}
	wantNum(t, "broker's Now", b.Now(), m.b.Now())
	wantNum(t, "Horizon", b.Horizon(), m.b.Horizon())
	wantNum(t, "Live", b.Live("q"), m.b.Live("q"))
	wantText(t, "committed", stateOf(t, b.Store()), stateOf(t, m.b.Store()))
}

// P21.1, P21.2: whatever happens, a world answers what the model does; Run answers the same, of the steps' bytes, and again.
func TestAgainstModel(t *testing.T) {
	answers := map[api.Errno]int{}
	for seed := range int64(150) {
		x := &teller{r: rand.New(rand.NewSource(seed))}
		room := []int{disk.MaxRoom, 3000, 1000}[seed%3]
		w, m := world.New(room), &model{}
		want(t, "Start", m.start(disk.New(room)), api.OK)
		var steps []world.Step
		var told []wire.Answer
		for i := range 300 {
			s := x.step(seed%2 == 0)
			if list := first(); i < len(list) {
				s = list[i]
			}
			is := m.do(s)
			wantAnswer(t, fmt.Sprint("seed ", seed, ": ", s), w.Do(s), is)
			x.told(s, is)
			answers[is.E]++
			steps, told = append(steps, s), append(told, is)
			if i%10 == 0 {
				wantLike(t, w, m)
			}
			if t.Failed() {
				t.FailNow()
			}
		}
		wantLike(t, w, m)
		wantRun(t, room, steps, told)
	}
	for _, e := range []api.Errno{api.OK, api.ErrArg, api.ErrForm, api.ErrNone, api.ErrTwice, api.ErrFull, api.ErrDown, api.ErrTurn, api.ErrWritten, api.ErrLease, api.ErrOld, api.ErrMark} {
		if answers[e] < 5 {
			t.Error("little was come to:", answers)
		}
	}
}

// wantRun holds a script to be answered so, run once, and once more.
func wantRun(t *testing.T, room int, steps []world.Step, told []wire.Answer) {
	t.Helper()
	text, e := world.Encode(steps)
	want(t, "Encode", e, api.OK)
	for range 2 {
		got, e := world.Run(room, text)
		want(t, "Run", e, api.OK)
		if !slices.EqualFunc(got, told, wire.Answer.Same) {
			t.Errorf("Run: %.300v\nnot %.300v", fmt.Sprint(got), fmt.Sprint(told))
		}
	}
}

// P21.2: Run, of scripts of a few steps, over rooms of all kinds.
func TestRun(t *testing.T) {
	wantRun(t, 1000, nil, nil)
	begun := []world.Step{asking(3, begin), {Kind: world.Tick, N: 7}, {Kind: world.Crash, Keep: []int{1}}, asking(3, commit), {Kind: world.Tick, N: api.MaxTime - 6}, {Kind: world.Fall}, {Kind: world.Save}, {Kind: world.Clean}, asking(3, begin)}
	told := []wire.Answer{{}, {}, {}, {E: api.ErrTurn}, {E: api.ErrArg}, {}, {E: api.ErrDown}, {E: api.ErrDown}, {E: api.ErrDown}}
	for _, room := range []int{math.MinInt, -1, 0, 1, 1000, disk.MaxRoom, math.MaxInt} {
		wantRun(t, room, begun, told)
	}
	for room, is := range map[int]wire.Answer{1000: {N: 1}, disk.MaxRoom + 1: {N: 1}, 10: {E: api.ErrFull}, -1: {E: api.ErrFull}} {
		wantRun(t, room, first(), []wire.Answer{{}, {}, {}, {}, is})
	}
}

// P21.2: a script of as many steps as there may be; each Run has a World of its own.
func TestRunOfMany(t *testing.T) {
	steps := slices.Repeat([]world.Step{{Kind: world.Tick, N: 1}, asking(0, begin), asking(0, abort), {Kind: world.Save}}, world.MaxSteps/4)
	wantRun(t, 1000, steps, make([]wire.Answer, world.MaxSteps))
}
