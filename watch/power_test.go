package watch_test

import (
	"fmt"
	"math/rand"
	"testing"

	"mailbag/api"
	"mailbag/base"
	"mailbag/disk"
	"mailbag/watch"
)

// watcher polls what begins so, from mark to mark; its mark is held, or it isn't.
type watcher struct {
	prefix string
	isHeld bool
	n      int // the number of its mark, if that is held
	mark   int
	told   []api.Commit
}

// life is a base over a disk that loses its power again and again, and who watches it.
type life struct {
	t        *testing.T
	r        *rand.Rand
	d        *disk.Disk
	b        *base.Base
	marks    *watch.Marks
	watchers []*watcher
	made     []api.Commit // from commit 1 on
}

// check holds what a watcher was told to those of the commits that wrote such keys.
func (w *watcher) check(t *testing.T, told, commits []api.Commit) {
	t.Helper()
	if got, is := text(told, w.mark), text(telling(commits, w.prefix), w.mark); got != is {
		t.Fatalf("%q was told %s\nnot %s", w.prefix, got, is)
	}
}

// begin opens the disk, as often as that takes; behind that the watchers, who know their marks, hold them again.
func (l *life) begin() {
	for {
		l.d = l.d.Crash([]int{l.r.Intn(60), l.r.Intn(300), l.r.Intn(300)})
		if l.r.Intn(2) == 0 {
			l.d.Fall(l.r.Intn(3))
		}
		b, e := base.Open(l.d)
		if e == api.ErrDown {
			continue
		}
		want(l.t, "Open", e, api.OK)
		l.b, l.marks = b, watch.New()
		break
	}
	low := l.b.Store().Low()
	list, e := l.b.Store().Since(low)
	want(l.t, "Since", e, api.OK)
	l.made = append(l.made[:low:low], list...)
	for _, w := range l.watchers {
		if w.isHeld {
			n, e := l.marks.Hold(w.mark)
			want(l.t, "Hold", e, api.OK)
			w.n = n
		}
	}
}

// poll lets a watcher poll once; whether it was told that there may be more.
func (l *life) poll(w *watcher) bool {
	l.t.Helper()
	s := l.b.Store()
	if mark, is := l.marks.Mark(w.n); w.isHeld && (mark != w.mark || !is) {
		l.t.Errorf("held %d: %d, %t, not %d", w.n, mark, is, w.mark)
	}
	b, e := watch.Poll(s, w.mark, w.prefix, 1+l.r.Intn(3))
	if e == api.ErrOld && !w.isHeld && w.mark < s.Low() { // what it missed is told nobody any more
		w.mark, w.told = s.Low(), telling(l.made[:s.Low()], w.prefix)
		return true
	}
	if want(l.t, "Poll", e, api.OK); e != api.OK {
		return false
	}
	was := w.mark
	w.mark, w.told = b.Mark, append(w.told, b.Commits...)
	if w.isHeld {
		want(l.t, "Move", l.marks.Move(w.n, b.Mark), api.OK)
	}
	w.check(l.t, b.Commits, l.made[was:b.Mark])
	return b.Mark > was
}

// step turns the base, or lets somebody poll; whether there was power.
func (l *life) step() bool {
	l.t.Helper()
	s := l.b.Store()
	wantNoPoll(l.t, s, s.Last()+1, "", 1, api.ErrMark)
	switch l.r.Intn(10) {
	case 0:
		want(l.t, "Vacuum", l.b.Vacuum(l.marks.Least(s.Last())), api.OK)
	case 1:
		return l.b.Save() != api.ErrDown
	case 2, 3, 4:
		l.poll(l.watchers[l.r.Intn(len(l.watchers))])
	default:
		list, at := anyWrites(l.r), max(7, l.b.At())
		last := s.Last()
		n, e := l.b.Commit(list, last, 7)
		if e == api.OK && n > last {
			l.made = append(l.made, commit(n, at, list...))
		}
		return e != api.ErrDown
	}
	return true
}

// P17.1, P4: losses of power or none, whoever polls from the mark that was told is told each commit that wrote such keys once, in order; none that is held is too old, whatever is cleaned away up to Least.
func TestPowerFails(t *testing.T) {
	for seed := range int64(50) {
		l := &life{t: t, r: rand.New(rand.NewSource(seed)), d: disk.New(100000)}
		for i, prefix := range []string{"", "a", "b", "ab", "\x00", "a"} {
			l.watchers = append(l.watchers, &watcher{prefix: prefix, isHeld: i < 4})
		}
		for range 30 {
			l.begin()
			l.d.Fall(l.r.Intn(60))
			for range 50 {
				if !l.step() {
					break
				}
			}
		}
		l.begin()
		for _, w := range l.watchers {
			for l.poll(w) {
			}
			if w.mark != l.b.Store().Last() || t.Failed() {
				t.Fatal(fmt.Sprint("seed ", seed, ": ", w.mark))
			}
			wantPoll(t, l.b.Store(), w.mark, w.prefix, 9, w.mark)
			w.check(t, w.told, l.made)
		}
	}
}
