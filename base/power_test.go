package base_test

import (
	"fmt"
	"math/rand"
	"slices"
	"strings"
	"testing"

	"mailbag/api"
	"mailbag/base"
	"mailbag/disk"
	"mailbag/store"
)

// life is what was asked of bases over one disk, through all its losses of power.
type life struct {
	t        *testing.T
	name     string
	made     []api.Commit // those that are there, or were under way
	answered int          // the number of the last one that is there for certain
	lows     []int        // the Low that is saved, and one that was under way
}

// check holds a base that was opened to what P12.4 says, and goes on from there.
func (l *life) check(b *base.Base) {
	l.t.Helper()
	low, last := b.Store().Low(), b.Store().Last()
	if last < l.answered || last > len(l.made) || !slices.Contains(l.lows, low) {
		l.t.Fatalf("%s: from %d to %d, not from one of %v to %d up to %d", l.name, low, last, l.lows, l.answered, len(l.made))
	}
	s, e := store.New(low, baseOf(l.made[:low]))
	want(l.t, l.name, e, api.OK)
	at := 0
	for _, c := range l.made[low:last] {
		want(l.t, l.name, s.Commit(c), api.OK)
		at = c.At
	}
	if got, is := told(b), toldOf(s, at); got != is {
		l.t.Fatalf("%s: %s, not %s", l.name, got, is)
	}
	l.made, l.answered, l.lows = l.made[:last:last], last, []int{low}
}

// baseOf is what commits come to.
func baseOf(list []api.Commit) []api.Write {
	var all []api.Write
	for _, c := range list {
		all = append(all, c.Writes...)
	}
	return slices.DeleteFunc(store.Sorted(all), func(w api.Write) bool { return w.Gone })
}

// step asks something of a base, and tells whether there was power.
func (l *life) step(b *base.Base, r *rand.Rand) bool {
	l.t.Helper()
	switch s := b.Store(); r.Intn(9) {
	case 0:
		want(l.t, l.name, b.Vacuum(s.Low()+r.Intn(s.Last()-s.Low()+1)), api.OK)
		return true
	case 1, 2:
		return l.save(b)
	default:
		return l.commit(b, anyWrites(r), s.Low()+r.Intn(s.Last()-s.Low()+1), r.Intn(1000))
	}
}

// anyWrites is writes of a few keys, or none.
func anyWrites(r *rand.Rand) []api.Write {
	var list []api.Write
	for range r.Intn(4) {
		w := put(fmt.Sprint(r.Intn(8)), strings.Repeat("v", r.Intn(40)))
		if r.Intn(3) == 0 {
			w = gone(w.Key)
		}
		list = append(list, w)
	}
	return store.Sorted(list)
}

// save saves.
func (l *life) save(b *base.Base) bool {
	l.t.Helper()
	low := b.Store().Low()
	switch e := b.Save(); e {
	case api.OK:
		l.lows = []int{low}
	case api.ErrDown:
		l.lows = append(l.lows, low)
		return false
	case api.ErrFull: // nothing is turned
	default:
		l.t.Fatalf("%s: Save: %d", l.name, e)
	}
	return true
}

// commit commits writes.
func (l *life) commit(b *base.Base, list []api.Write, snap, now int) bool {
	l.t.Helper()
	free := !slices.ContainsFunc(l.made[snap:], func(c api.Commit) bool {
		return slices.ContainsFunc(c.Writes, func(w api.Write) bool {
			return slices.ContainsFunc(list, func(x api.Write) bool { return x.Key == w.Key })
		})
	})
	n, at := len(l.made), b.At()
	got, e := b.Commit(list, snap, now)
	switch {
	case e == api.OK && len(list) == 0 && got == n, e == api.ErrWritten && !free:
	case e == api.ErrFull && free:
	case e == api.OK && len(list) > 0 && free && got == n+1:
		l.made, l.answered = append(l.made, commit(n+1, max(now, at), list...)), n+1
	case e == api.ErrDown:
		if free && len(list) > 0 {
			l.made = append(l.made, commit(n+1, max(now, at), list...))
		}
		return false
	default:
		l.t.Fatalf("%s: Commit of %v behind %d: %d, %d", l.name, list, snap, got, e)
	}
	return true
}

// branch is the same life, to go on with apart from it.
func (l *life) branch(name string) *life {
	c := *l
	c.name = l.name + ", " + name
	c.made, c.lows = slices.Clone(l.made), slices.Clone(l.lows)
	return &c
}

// open opens a disk with power, whose power fails again at each of Open's turns, so many times one behind the other; it holds all that is told to check, and what is committed then.
func (l *life) open(d *disk.Disk, times int) {
	l.t.Helper()
	for turns := range 4 { // of which Open has three at most
		c := d.Clone()
		c.Fall(turns)
		b, e := base.Open(c)
		if e == api.ErrDown && turns < 3 {
			for _, keep := range [][]int{nil, {1000, 1000, 1000}} {
				if times > 1 {
					l.branch(fmt.Sprint("in Open ", turns)).open(c.Crash(keep), times-1)
				}
			}
			continue
		}
		if want(l.t, l.name, e, api.OK); e != api.OK {
			return
		}
		next := l.branch(fmt.Sprint("opened ", turns))
		next.check(b)
		if c.Down() || turns < 3 {
			continue // the power fails at the next turn
		}
		c = c.Crash(nil)
		b = open(l.t, c)
		next.check(b)
		next.commit(b, []api.Write{put("more", "")}, len(next.made), 0)
		next.check(open(l.t, c.Crash(nil)))
	}
}

// P12.4: the power fails at each turn, the disk keeps this or that, the power fails in Open, and again.
func TestPowerFailsAtEachTurn(t *testing.T) {
	keeps := []int{0, 1, 11, 12, 13, 40, 1000} // of each file; there is one at most that isn't safe
	for seed := range int64(10) {
		down := true
		for turns := 0; down; turns++ {
			r := rand.New(rand.NewSource(seed))
			l := &life{t: t, name: fmt.Sprint("seed ", seed, ", turn ", turns), lows: []int{0}}
			d := disk.New(10000)
			b := open(t, d)
			d.Fall(turns)
			down = false
			for range 25 {
				if down = !l.step(b, r); down {
					break
				}
			}
			for _, keep := range keeps {
				l.branch(fmt.Sprint("keep ", keep)).open(d.Crash([]int{keep, keep, keep}), 2)
			}
		}
	}
}

// P12.4: losses of power one behind the other, also in Open, over a disk that is full at times.
func TestPowerFailsAgainAndAgain(t *testing.T) {
	for seed := range int64(200) {
		r := rand.New(rand.NewSource(seed))
		l := &life{t: t, lows: []int{0}}
		d := disk.New([]int{300, 1000, 3000, 100000}[seed%4])
		keep := func() []int { return []int{r.Intn(60), r.Intn(300), r.Intn(300)}[:r.Intn(4)] }
		for loss := range 40 {
			l.name = fmt.Sprint("seed ", seed, ", loss ", loss)
			if r.Intn(2) == 0 {
				d.Fall(r.Intn(3))
			}
			b, e := base.Open(d)
			if e == api.ErrDown {
				d = d.Crash(keep())
				continue
			}
			if want(t, l.name, e, api.OK); e != api.OK {
				break
			}
			l.check(b)
			d.Fall(r.Intn(30))
			for range 30 {
				if !l.step(b, r) {
					break
				}
			}
			d = d.Crash(keep())
		}
	}
}
