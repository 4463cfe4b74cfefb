package hist_test

import (
	"fmt"
	"math/rand"
	"slices"
	"testing"

	"mailbag/api"
	"mailbag/broker"
	"mailbag/disk"
	"mailbag/hist"
	"mailbag/wire"
)

// lease is a message that was handed out.
type lease struct{ queue, id, token string }

// same tells whether another one has the same id and token.
func (x lease) same(o lease) bool { return x.id == o.id && x.token == o.token }

// life is a broker of queues, whose disk may lose its power.
type life struct {
	t     *testing.T
	r     *rand.Rand
	d     *disk.Disk
	b     *broker.Broker
	made  []api.Commit // from commit 1 on
	taken []lease      // all that sessions were told, whatever became of their transactions
}

// ask lets a session ask.
func (l *life) ask(session int, a wire.Ask) wire.Answer {
	l.t.Helper()
	s, e := a.Encode()
	want(l.t, "Encode", e, api.OK)
	return l.b.Do(session, s)
}

// keep keeps the commits that there are.
func (l *life) keep() {
	low := l.b.Store().Low()
	list, e := l.b.Store().Since(low)
	want(l.t, "Since", e, api.OK)
	l.made = append(l.made[:low:low], list...)
}

// crash starts a broker of what the disk keeps.
func (l *life) crash() {
	l.keep()
	for e := api.ErrDown; e == api.ErrDown; {
		l.d = l.d.Crash([]int{l.r.Intn(60) + 500*l.r.Intn(2), l.r.Intn(300), l.r.Intn(300)})
		if l.r.Intn(2) == 0 {
			l.d.Fall(l.r.Intn(4))
		}
		l.b, e = broker.Start(l.d, max(0, l.b.Now()-l.r.Intn(2)))
		if e == api.ErrDown {
			l.b = &broker.Broker{}
		} else {
			want(l.t, "Start", e, api.OK)
		}
	}
	l.keep()
}

// one is something that a session asks of a queue.
func (l *life) one(session int) {
	name := []string{"q", "q", "d", "e"}[l.r.Intn(4)]
	switch l.r.Intn(5) {
	case 0:
		l.ask(session, wire.Ask{Op: wire.Send, A: name, B: fmt.Sprint(l.r.Intn(99)), N: l.r.Intn(3)})
	case 1, 2:
		w := l.ask(session, wire.Ask{Op: wire.Take, A: name, N: 1 + l.r.Intn(4)})
		if w.E == api.OK {
			l.taken = append(l.taken, lease{name, w.Texts[0], w.Texts[1]})
		}
	default:
		if n := len(l.taken); n > 0 {
			x := l.taken[max(0, n-1-l.r.Intn(5))]
			op := []wire.Op{wire.Ack, wire.Nack, wire.Nack, wire.Extend, wire.Extend}[l.r.Intn(5)]
			l.ask(session, wire.Ask{Op: op, A: x.queue, B: x.id, C: x.token, N: 1 + l.r.Intn(3)})
		}
	}
}

// step is something that happens.
func (l *life) step() {
	session := l.r.Intn(4)
	switch n := l.r.Intn(20); {
	case n == 0:
		if l.b.Save() == api.ErrDown {
			l.crash()
		}
	case n == 1:
		l.keep()
		want(l.t, "Clean", l.b.Clean(), api.OK)
	case n == 2:
		l.d.Fall(l.r.Intn(20))
	case n < 6:
		want(l.t, "Tick", l.b.Tick(l.r.Intn(3)), api.OK)
	case !l.b.Open(session):
		l.ask(session, wire.Ask{Op: wire.Begin})
	case n < 11:
		if l.ask(session, wire.Ask{Op: wire.Commit}).E == api.ErrDown {
			l.crash()
		}
	default:
		l.one(session)
	}
}

// lived is a broker's life of so many steps. From q messages go to d, from e they go away.
func lived(t *testing.T, seed int64, steps int) *life {
	t.Helper()
	l := &life{t: t, r: rand.New(rand.NewSource(seed)), d: disk.New(disk.MaxRoom)}
	b, e := broker.Start(l.d, 0)
	want(t, "Start", e, api.OK)
	l.b = b
	for _, a := range []wire.Ask{{Op: wire.Begin}, {Op: wire.MakeQueue, A: "q", N: 3, B: "d"}, {Op: wire.MakeQueue, A: "d", N: 2}, {Op: wire.MakeQueue, A: "e", N: 1, B: "none"}, {Op: wire.Commit}} {
		want(t, "begin", l.ask(0, a).E, api.OK)
	}
	for range steps {
		l.step()
	}
	l.keep()
	return l
}

// P20.3, P3: of what a broker commits, whatever is asked and whenever the power fails, Events are Sound; nobody is handed out a message more often than its queues say, and whoever is was told so.
func TestBrokerIsSound(t *testing.T) {
	moved, went, leased := 0, 0, 0
	for seed := range int64(100) {
		l := lived(t, seed, 800)
		events, e := hist.Events(l.made)
		want(t, "Events", e, api.OK)
		if !hist.Sound(events) {
			t.Fatalf("seed %d:\n%s", seed, lines(events))
		}
		for id, n := range hist.Leases(events) {
			leased += n
			if n > 5 { // 3 times from q, then 2 times from d
				t.Errorf("seed %d: %q was handed out %d times", seed, id, n)
			}
		}
		for _, x := range events {
			switch {
			case x.To == "":
				went++
			case x.From != "" && x.From != x.To:
				moved++
			}
			if most := map[string]int{"q": 3, "d": 2, "e": 1}[x.To]; x.New.Count > most {
				t.Errorf("seed %d: too often: %+v", seed, x)
			}
			if token := x.New.Token; token != "" && !slices.ContainsFunc(l.taken, lease{id: x.ID, token: token}.same) {
				t.Errorf("seed %d: nobody was told of %+v", seed, x)
			}
		}
	}
	if moved < 100 || went < 500 || leased < 1000 {
		t.Error("little was come to:", moved, went, leased)
	}
}

// P20.2, P20.3: of what no broker commits, they needn't be.
func TestUnsound(t *testing.T) {
	l := lived(t, 7, 800)
	events, e := hist.Events(l.made)
	want(t, "Events", e, api.OK)
	if len(events) < 20 || !hist.Sound(events) {
		t.Fatal(lines(events))
	}
	for i, x := range events {
		twice := append(append([]hist.Event{}, events[:i+1]...), events[i:]...)
		if is := x.From != "" && x.To != ""; hist.Sound(twice) && !is {
			t.Errorf("twice: %+v", x)
		}
		if x.From == "" && x.To != "" {
			without := append(append([]hist.Event{}, events[:i]...), events[i+1:]...)
			goes := false
			for _, o := range without {
				goes = goes || o.ID == x.ID && o.To == ""
			}
			if hist.Sound(without) == goes {
				t.Errorf("without %+v", x)
			}
		}
	}
}
