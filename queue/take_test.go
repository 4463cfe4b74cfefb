package queue_test

import (
	"fmt"
	"math"
	"slices"
	"testing"

	"mailbag/api"
	"mailbag/claim"
	"mailbag/ord"
	"mailbag/queue"
	"mailbag/store"
	"mailbag/txn"
)

// asked is a busy function that says true of some ids of a queue, and the ids of which it was asked.
func asked(name string, busy ...string) (func(string) bool, *[]string) {
	var list []string
	return func(key string) bool {
		parts, e := ord.Parts(key)
		if e != api.OK || len(parts) != 3 || key != queue.Place(name, parts[2]) {
			list = append(list, "no place: "+key)
			return false
		}
		list = append(list, parts[2])
		return slices.Contains(busy, parts[2])
	}, &list
}

// P15.4: what is told, and what is kept.
func TestTake(t *testing.T) {
	for _, lease := range []int{1, 50, api.MaxTime} {
		x := over(t, now, q("q", 3, ""))
		a, b := send(t, x, "q", "a", 0), send(t, x, "q", "", 0)
		for i, id := range []string{a, b} {
			m := take(t, x, "q", lease)
			token := a[:16] + string(ord.Int(nil, int64(3+i)))
			if wanted := (queue.Message{ID: id, Body: []string{"a", ""}[i], Ready: now + lease, Count: 1, Token: token}); m != wanted {
				t.Errorf("%v, not %v", m, wanted)
			}
			wantKept(t, x, "q", m)
		}
		wantNotTaken(t, x, "q", lease, api.ErrNone)
		wantText(t, "no id is made where none is told", x.ID(), a[:16]+string(ord.Int(nil, 5)))
	}
	late := over(t, api.MaxTime, q("q", 3, ""))
	send(t, late, "q", "", 0)
	m := take(t, late, "q", api.MaxTime)
	wantKept(t, late, "q", m)
	if m.Ready != 2*api.MaxTime {
		t.Error(m)
	}
}

// P15.4: ErrArg, ahead of all but Of's error; and nothing is turned.
func TestTakeOfWrong(t *testing.T) {
	for _, lease := range []int{math.MinInt, -1, 0, api.MaxTime + 1, math.MaxInt} {
		x := over(t, now, q("q", 1, ""), q("empty", 1, ""), q("bad", 1, ""))
		lay(t, x, "q", queue.Message{ID: "a", Count: 1})
		lay(t, x, "q", queue.Message{ID: "b"})
		raw(t, x, queue.Place("bad", "a"), "")
		ahead := told(x)
		for _, name := range []string{"q", "empty", "bad"} {
			wantNotTaken(t, x, name, lease, api.ErrArg)
		}
		wantText(t, "behind that", told(x), ahead)
	}
}

// P15.4: messages are taken in order of their ids, whenever they came, however often they were taken, from when on they are Ready.
func TestTakeInOrder(t *testing.T) {
	ids := []string{"\xff", "b", "a\x00", "", "a", "\x00", "ab", "\x00\x00"}
	x := over(t, now, q("q", 1000, ""), q("qq", 1, ""), q("q\x00", 1, ""))
	for i, id := range ids {
		lay(t, x, "q", queue.Message{ID: id, Body: fmt.Sprint(i), Ready: now - 10*i, Count: 999 - i})
		lay(t, x, "qq", queue.Message{ID: id})
		lay(t, x, "q\x00", queue.Message{ID: id})
	}
	slices.Sort(ids)
	for _, id := range ids {
		wantText(t, "taken", take(t, x, "q", 1).ID, id)
	}
	wantNotTaken(t, x, "q", 1, api.ErrNone)
	wantLive(t, x, "qq", len(ids))
}

// P15.4: from when on a message is handed out.
func TestTakeWhenReady(t *testing.T) {
	for _, delay := range []int{0, 1, 2, 50, api.MaxTime - now} {
		x := over(t, now, q("q", 1000, ""))
		id := send(t, x, "q", "a", delay)
		for count := range 3 {
			if count > 0 || delay > 0 {
				x = later(t, x, x.Now()+max(delay, 1)-1)
				wantNotTaken(t, x, "q", max(delay, 1), api.ErrNone)
				x = later(t, x, x.Now()+1)
			}
			if x.Now() > api.MaxTime {
				break
			}
			m := take(t, x, "q", max(delay, 1))
			if m.ID != id || m.Count != count+1 || m.Ready != x.Now()+max(delay, 1) {
				t.Errorf("delay %d: %v", delay, m)
			}
			wantNotTaken(t, x, "q", 1, api.ErrNone)
		}
	}
}

// P15.4: what is busy, or isn't Ready, is passed over; what is behind the one that is told isn't looked at.
func TestTakeLooks(t *testing.T) {
	for _, c := range []struct{ busy, told, looked []string }{
		{nil, []string{"b"}, []string{"b"}},
		{[]string{"b"}, []string{"d"}, []string{"b", "d"}},
		{[]string{"b", "d"}, []string{"f"}, []string{"b", "d", "e", "f"}},
		{[]string{"b", "d", "e", "f", "g"}, nil, []string{"b", "d", "e", "f"}},
		{[]string{"d", "e", "f"}, []string{"b"}, []string{"b"}},
	} {
		x := over(t, now, q("q", 2, "dead"), q("dead", 2, ""))
		for _, m := range []queue.Message{{ID: "a", Ready: now + 1}, {ID: "b", Ready: now, Count: 1}, {ID: "c", Ready: now + 1, Count: 2}, {ID: "d"}, {ID: "e", Count: 2, Token: "t", Body: "e"}, {ID: "f", Token: "t"}} {
			lay(t, x, "q", m)
		}
		raw(t, x, queue.Place("q", "g"), "a bad one, that nobody comes to")
		if c.told == nil {
			want(t, "Drop", x.Drop(queue.Place("q", "g")), api.OK)
		}
		busy, list := asked("q", c.busy...)
		m, e := queue.Take(x, "q", 5, busy)
		if (e == api.OK) != (c.told != nil) || e == api.OK && m.ID != c.told[0] || e != api.OK && (e != api.ErrNone || m != queue.Message{}) {
			t.Errorf("%q: %v, %d", c.busy, m, e)
		}
		if !slices.Equal(*list, c.looked) {
			t.Errorf("%q: asked of %q", c.busy, *list)
		}
		isDead := slices.Contains(c.looked, "e") && !slices.Contains(c.busy, "e")
		if _, is := x.Get(queue.Place("q", "e")); is == isDead {
			t.Errorf("%q: e is kept: %t", c.busy, is)
		}
		if isDead {
			wantKept(t, x, "dead", queue.Message{ID: "e", Body: "e", Ready: now})
		} else {
			wantGone(t, x, "dead", "e")
		}
		wantKept(t, x, "q", queue.Message{ID: "a", Ready: now + 1})
		wantKept(t, x, "q", queue.Message{ID: "c", Ready: now + 1, Count: 2})
	}
}

// P15.4: dead ones go, and are kept in the queue Dead, if there is one; also where none is told.
func TestDead(t *testing.T) {
	for _, dead := range []string{"", "none", "dead"} {
		for _, isOne := range []bool{false, true} {
			x := over(t, now, q("q", 2, dead), q("dead", 1, "q"), q("other", 1, ""))
			for i, id := range []string{"b", "a", "c"} {
				lay(t, x, "q", queue.Message{ID: id, Body: "body " + id, Ready: now - i, Count: 2 + i, Token: long(i)})
			}
			lay(t, x, "q", queue.Message{ID: "later", Ready: now + 1, Count: 2})
			if isOne {
				lay(t, x, "q", queue.Message{ID: "d", Ready: now, Count: 1, Token: "t"})
				if m := take(t, x, "q", 9); m.ID != "d" || m.Count != 2 {
					t.Error(m)
				}
			} else {
				wantNotTaken(t, x, "q", 9, api.ErrNone)
			}
			for _, id := range []string{"a", "b", "c"} {
				wantGone(t, x, "q", id)
				if dead == "dead" {
					wantKept(t, x, "dead", queue.Message{ID: id, Body: "body " + id, Ready: now})
				}
			}
			if dead != "dead" {
				wantLive(t, x, "dead", 0)
			}
			wantLive(t, x, "none", 0)
			wantLive(t, x, "", 0)
			wantKept(t, x, "q", queue.Message{ID: "later", Ready: now + 1, Count: 2})
		}
	}
}

// P15.4: a message is handed out Max times, and then goes from queue to queue; two that are each other's Dead hand it to and fro.
func TestDeadOnAndOn(t *testing.T) {
	x := over(t, now, q("q", 3, "d"), q("d", 1, "q"))
	id := send(t, x, "q", "body", 0)
	wantNotTaken(t, x, "d", 1, api.ErrNone)
	for round := range 5 {
		for _, c := range []queue.Queue{q("q", 3, "d"), q("d", 1, "q")} {
			for i := range c.Max {
				m := take(t, x, c.Name, 7)
				if m.ID != id || m.Body != "body" || m.Count != i+1 || m.Ready != x.Now()+7 {
					t.Error(round, m)
				}
				x = later(t, x, x.Now()+7)
			}
			wantNotTaken(t, x, c.Name, 7, api.ErrNone)
			wantGone(t, x, c.Name, id)
			wantKept(t, x, c.Dead, queue.Message{ID: id, Body: "body", Ready: x.Now()})
		}
	}
}

// P15.4: Max is the queue's: 1 and 1000.
func TestMax(t *testing.T) {
	for _, most := range []int{1, 2, 999, 1000} {
		for _, count := range []int{0, 1, 2, 998, 999, 1000} {
			x := over(t, now, q("q", most, ""))
			lay(t, x, "q", queue.Message{ID: "a", Count: count})
			if count >= most {
				wantNotTaken(t, x, "q", 1, api.ErrNone)
				wantGone(t, x, "q", "a")
			} else if m := take(t, x, "q", 1); m.Count != count+1 {
				t.Error(most, count, m)
			}
		}
	}
}

// P1, P15.4, P16.1: of two transactions that take from one queue with two messages each has another one, as they claim them; else one of them isn't committed.
func TestTwoTake(t *testing.T) {
	x := over(t, now, q("q", 3, ""))
	for range 2 {
		send(t, x, "q", "", 0)
	}
	var list []api.Write
	for key, v := range x.Range("", "") {
		list = append(list, api.Write{Key: key, Val: v})
	}
	for _, claimed := range []bool{true, false} {
		s, _ := store.New(1, list)
		c := claim.New()
		y, z := txn.Begin(s, now, 1), txn.Begin(s, now, 2)
		m, e := queue.Take(y, "q", 9, c.Busy(1))
		want(t, "Take", e, api.OK)
		if claimed && !c.Take(1, queue.Place("q", m.ID)) {
			t.Error("not claimed")
		}
		k, e := queue.Take(z, "q", 9, c.Busy(2))
		if e != api.OK || (k.ID != m.ID) != claimed || k.Token == m.Token {
			t.Error(m, k, e)
		}
		want(t, "Commit", s.Commit(api.Commit{Seq: 2, Writes: y.Writes()}), api.OK)
		if s.Free(z.Writes(), z.Snap()) != claimed {
			t.Error("free:", !claimed)
		}
	}
}

// P15.4: layer 10's errors of writing end all, wherever they come; no more is written than there is room for, and a message that isn't written isn't told.
func TestTakeTooMany(t *testing.T) {
	for _, c := range []struct {
		dead string
		need int
	}{{"", 3}, {"none", 3}, {"d", 5}} {
		for room := range c.need + 2 {
			x := over(t, now, q("q", 1, c.dead), q("d", 1, ""))
			lay(t, x, "q", queue.Message{ID: "a", Count: 1})
			lay(t, x, "q", queue.Message{ID: "b", Count: 1})
			lay(t, x, "q", queue.Message{ID: "c"})
			x = later(t, x, now)
			full(t, x, room)
			if room < c.need {
				wantNotTaken(t, x, "q", 9, api.ErrLong)
				wantKept(t, x, "q", queue.Message{ID: "c"})
			} else {
				wantText(t, "taken", take(t, x, "q", 9).ID, "c")
			}
			if got := len(x.Writes()); got != api.MaxWrites-room+min(room, c.need) {
				t.Errorf("Dead %q, room %d: %d writes", c.dead, room, got)
			}
		}
	}
	x := over(t, now, q("q", 9, ""))
	send(t, x, "q", "", 0)
	full(t, x, 0)
	take(t, x, "q", 9) // of a key that it wrote already
}

// P5: all times gone by, whoever takes and acks, one transaction each, as often as there are messages, empties a queue.
func TestEmptied(t *testing.T) {
	x := over(t, now, q("q", 5, "d"), q("d", 5, ""))
	const n = 150
	for i := range n {
		lay(t, x, "q", queue.Message{ID: fmt.Sprint(i), Count: i % 5, Ready: now + i*i, Token: long(i % 3)})
	}
	x = later(t, x, api.MaxTime-n)
	for i := range n {
		wantLive(t, x, "q", n-i)
		m := take(t, x, "q", 1)
		want(t, "Ack", queue.Ack(x, "q", m.ID, m.Token), api.OK)
		x = later(t, x, x.Now()+1)
	}
	wantLive(t, x, "q", 0)
	wantLive(t, x, "d", 0)
	wantNotTaken(t, x, "q", 1, api.ErrNone)
}
