package world_test

import (
	"fmt"
	"math/rand"
	"strings"
	"testing"

	"mailbag/api"
	"mailbag/disk"
	"mailbag/hist"
	"mailbag/rec"
	"mailbag/store"
	"mailbag/wire"
	"mailbag/world"
)

// life is a world whose power fails, again and again.
type life struct {
	t        *testing.T
	w        *world.World
	room     int
	done     []world.Step // all of them, so that it can be lived once more
	made     []api.Commit // from commit 1 on
	watchers []*watcher
	failed   int // losses of power
	kept     int // commits that were kept, though they weren't answered
}

// watcher polls a prefix from mark to mark.
type watcher struct {
	prefix  string
	n, mark int
	told    []string
}

// newLife is a life that nothing happened in.
func newLife(t *testing.T, room int) *life {
	l := &life{t: t, w: world.New(room), room: room}
	for _, prefix := range []string{"", "m", "d"} {
		l.watchers = append(l.watchers, &watcher{prefix: prefix})
	}
	return l
}

// do does a step, and keeps the commits that there are.
func (l *life) do(s world.Step) wire.Answer {
	l.t.Helper()
	l.done = append(l.done, s)
	x := l.w.Do(s)
	l.made = l.commits()
	return x
}

// commits are all from the first one on, also those that were cleaned away.
func (l *life) commits() []api.Commit {
	l.t.Helper()
	b := l.w.Broker()
	if b == nil {
		return l.made
	}
	low := b.Store().Low()
	list, e := b.Store().Since(low)
	want(l.t, "Since", e, api.OK)
	return append(l.made[:low:low], list...)
}

// twin is a life in which the same happened.
func (l *life) twin() *life {
	l.t.Helper()
	o := newLife(l.t, l.room)
	for _, s := range l.done {
		o.do(s)
	}
	o.made = append([]api.Commit{}, l.made...)
	return o
}

// fold is what commits come to, as bytes.
func fold(t *testing.T, list []api.Commit, low int) string {
	t.Helper()
	s, e := store.New(0, nil)
	want(t, "New", e, api.OK)
	for _, c := range list {
		want(t, "Commit", s.Commit(c), api.OK)
	}
	want(t, "Vacuum", s.Vacuum(low), api.OK)
	return stateOf(t, s)
}

// crash lets the power come back: the commits are a beginning of all, with those that were answered, and one at most that was under way.
func (l *life) crash(all []api.Commit, keep []int) {
	l.t.Helper()
	answered := len(l.made)
	l.done = append(l.done, world.Step{Kind: world.Crash, Keep: keep})
	crash(l.t, l.w, keep...)
	s := l.w.Broker().Store()
	if n := s.Last(); n < answered || n > min(answered+1, len(all)) {
		l.t.Fatalf("%d commits, of %d that were answered and %d in all", n, answered, len(all))
	}
	l.failed++
	l.kept += s.Last() - answered
	l.made = all[:s.Last():s.Last()]
	wantText(l.t, "behind a Crash", stateOf(l.t, s), fold(l.t, l.made, s.Low()))
}

// watch lets all watchers hold the marks that they know.
func (l *life) watch() {
	l.t.Helper()
	for i, x := range l.watchers {
		a := l.do(asking(i, wire.Ask{Op: wire.Watch, N: x.mark}))
		want(l.t, "Watch", a.E, api.OK)
		x.n = a.N
	}
}

// poll lets a watcher poll; without power nothing is told.
func (l *life) poll(x *watcher, most int) {
	l.t.Helper()
	switch a := l.do(asking(9, wire.Ask{Op: wire.Poll, N: x.n, M: most, A: x.prefix})); a.E {
	case api.OK:
		x.mark, x.told = a.N, append(x.told, a.Texts...)
	default:
		want(l.t, "Poll", a.E, api.ErrDown)
	}
}

// all holds a watcher to be told each commit that wrote such keys, once, in order.
func (l *life) all(x *watcher) {
	l.t.Helper()
	for x.mark < len(l.made) {
		l.poll(x, 3)
	}
	var is []string
	for _, c := range l.made {
		var list []api.Write
		for _, y := range c.Writes {
			if strings.HasPrefix(y.Key, x.prefix) {
				list = append(list, y)
			}
		}
		if c.Writes = list; len(list) > 0 {
			s, e := rec.Commit(c)
			want(l.t, "rec", e, api.OK)
			is = append(is, s)
		}
	}
	wantText(l.t, "told of "+x.prefix, fmt.Sprintf("%q", x.told), fmt.Sprintf("%q", is))
}

// empty lets a queue get empty: whoever takes and acks, as often as there are messages.
func (l *life) empty(name string) {
	l.t.Helper()
	for session := range 16 {
		l.do(asking(session, abort))
	}
	want(l.t, "Tick", l.do(world.Step{Kind: world.Tick, N: 1 << 30}).E, api.OK)
	for range l.w.Broker().Live(name) {
		want(l.t, "Begin", l.do(asking(7, begin)).E, api.OK)
		if a := l.do(asking(7, wire.Ask{Op: wire.Take, A: name, N: 9})); a.E == api.OK {
			want(l.t, "Ack", l.do(asking(7, wire.Ask{Op: wire.Ack, A: name, B: a.Texts[0], C: a.Texts[1]})).E, api.OK)
		} else {
			want(l.t, "Take", a.E, api.ErrNone)
		}
		want(l.t, "Commit", l.do(asking(7, commit)).E, api.OK)
	}
	wantNum(l.t, "Live of "+name, l.w.Broker().Live(name), 0)
}

// sound holds what became of messages to be sound, and each to be handed out no more often than its queues say.
func (l *life) sound() {
	l.t.Helper()
	events, e := hist.Events(l.made)
	want(l.t, "Events", e, api.OK)
	if !hist.Sound(events) {
		l.t.Error("not sound")
	}
	for id, n := range hist.Leases(events) {
		if n > 5 { // 2 times from q, then 3 times from d
			l.t.Errorf("%q was handed out %d times", id, n)
		}
	}
}

// lived is what happens between two losses of power: the steps, as they were made up over a twin that doesn't lose it, and the commits that were made there.
func (l *life) lived(x *teller, steps int) ([]world.Step, []api.Commit) {
	l.t.Helper()
	o := l.twin()
	from := len(o.done)
	for range steps {
		s := x.step(false)
		x.told(s, o.do(s))
	}
	return o.done[from:], o.made
}

// P21.3, P2 to P5: whenever the power fails, whatever the disk keeps, the commits are a beginning of those that were under way, with all that were answered; whoever polls is told each once; messages are sound; queues get empty.
func TestPowerFails(t *testing.T) {
	failed, kept := 0, 0
	for seed := range int64(60) {
		l := newLife(t, disk.MaxRoom)
		x := &teller{r: rand.New(rand.NewSource(seed)), others: len(l.watchers)}
		for _, s := range first() {
			want(t, "first", l.do(s).E, api.OK)
		}
		for range 10 {
			l.watch()
			steps, all := l.lived(x, 40)
			fall := x.r.Intn(len(steps) / 2)
			for i, s := range steps {
				if i == fall {
					l.do(world.Step{Kind: world.Fall, N: x.r.Intn(8)})
				}
				l.do(s)
			}
			for _, y := range l.watchers {
				l.poll(y, 1+x.r.Intn(3))
			}
			down := l.w.Broker() == nil
			l.crash(all, x.keep())
			if x.told(world.Step{Kind: world.Crash}, wire.Answer{}); !down {
				l.failed--
			}
			if t.Failed() {
				t.Fatal("seed", seed)
			}
		}
		l.watch()
		for _, y := range l.watchers {
			l.all(y)
		}
		l.empty("q")
		l.empty("d")
		for _, y := range l.watchers {
			l.all(y)
		}
		l.sound()
		failed, kept = failed+l.failed, kept+l.kept
	}
	if failed < 300 || kept < 20 {
		t.Error("little was come to:", failed, kept)
	}
}

// script is a script in which all is done that turns the disk: commits, a Reap, Saves.
func script() []world.Step {
	list := append(first(), asking(1, begin), asking(1, send), asking(1, put("1", 3)), asking(1, commit), world.Step{Kind: world.Save})
	list = append(list, asking(2, begin), asking(2, take), asking(2, commit), world.Step{Kind: world.Tick, N: 4}, world.Step{Kind: world.Reap, N: 3})
	list = append(list, world.Step{Kind: world.Clean}, asking(3, begin), asking(3, send), asking(3, commit), world.Step{Kind: world.Save}, asking(3, begin), asking(3, send), asking(3, commit))
	return list
}

// P21.3: at each turn of a script the power fails, and fails again ahead of a commit behind that; of each file nothing is kept, or little, or all.
func TestEachTurn(t *testing.T) {
	whole := newLife(t, disk.MaxRoom)
	for _, s := range script() {
		want(t, fmt.Sprint(s), whole.do(s).E, api.OK)
	}
	wantNum(t, "commits", len(whole.made), 6)
	kept := 0
	for turns := range 22 { // two of each commit, four of each Save
		for k := range 27 {
			keep := []int{0, 30, 1000}
			keep = []int{keep[k%3], keep[k/3%3], keep[k/9]}
			l := newLife(t, disk.MaxRoom)
			l.do(world.Step{Kind: world.Fall, N: turns})
			for _, s := range script() {
				l.do(s)
			}
			if down := l.w.Broker() == nil; down != (turns < 20) {
				t.Fatal("turns", turns, down)
			}
			l.crash(whole.made, keep)
			kept += l.kept
			last := len(l.made)
			want(t, "Fall", l.do(world.Step{Kind: world.Fall, N: 1}).E, api.OK)
			want(t, "Begin", l.do(asking(0, begin)).E, api.OK)
			want(t, "MakeQueue", l.do(asking(0, wire.Ask{Op: wire.MakeQueue, A: "x", N: 1})).E, api.OK)
			want(t, "Commit", l.do(asking(0, commit)).E, api.ErrDown)
			l.crash(l.made, nil)
			wantNum(t, "Last", len(l.made), last)
			if t.Failed() {
				t.Fatal("turns", turns, "keep", keep)
			}
		}
	}
	if kept < 20 {
		t.Error("little was come to:", kept)
	}
}
