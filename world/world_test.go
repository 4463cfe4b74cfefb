package world_test

import (
	"fmt"
	"math"
	"slices"
	"strings"
	"testing"

	"mailbag/api"
	"mailbag/broker"
	"mailbag/disk"
	"mailbag/rec"
	"mailbag/schema"
	"mailbag/store"
	"mailbag/val"
	"mailbag/wire"
	"mailbag/world"
)

// want holds an error to be another one.
func want(t *testing.T, what string, got, is api.Errno) {
	t.Helper()
	if got != is {
		t.Errorf("%s: error %d, not %d", what, got, is)
	}
}

// wantNum holds a number to be another one.
func wantNum(t *testing.T, what string, got, is int) {
	t.Helper()
	if got != is {
		t.Errorf("%s: %d, not %d", what, got, is)
	}
}

// wantText holds a text to be another one.
func wantText(t *testing.T, what, got, is string) {
	t.Helper()
	if got != is {
		t.Errorf("%s: %.1000q\nnot %.1000q", what, got, is)
	}
}

// wantAnswer holds an answer to be another one.
func wantAnswer(t *testing.T, what string, got, is wire.Answer) {
	t.Helper()
	if !got.Same(is) {
		t.Errorf("%s: %d, %d, %q\nnot %d, %d, %q", what, got.E, got.N, got.Texts, is.E, is.N, is.Texts)
	}
}

// bytesOf is a question's bytes.
func bytesOf(a wire.Ask) string {
	s, e := a.Encode()
	if e != api.OK {
		panic(fmt.Sprint(a, e))
	}
	return s
}

// asking is the step that asks.
func asking(session int, a wire.Ask) world.Step {
	return world.Step{Kind: world.Ask, Session: session, Text: bytesOf(a)}
}

// begin, commit, abort are what is asked without more.
var begin, commit, abort = wire.Ask{Op: wire.Begin}, wire.Ask{Op: wire.Commit}, wire.Ask{Op: wire.Abort}

// send, take are what is asked of the queue q.
var send, take = wire.Ask{Op: wire.Send, A: "q", B: "x"}, wire.Ask{Op: wire.Take, A: "q", N: 5}

// put lets a document be there that is due.
func put(id string, due int) wire.Ask {
	s, e := val.OfMap(val.Field{Name: "n", Val: val.OfInt(1)}).Encode()
	if e != api.OK {
		panic(e)
	}
	return wire.Ask{Op: wire.Put, A: "c", B: id, C: s, N: due}
}

// makes are what makes the collection c, and the queue q (2 times).
func makes() []wire.Ask {
	return []wire.Ask{
		{Op: wire.MakeColl, A: "c", B: schema.Coll{Name: "c", Indexes: []schema.Index{{Name: "i", Field: "n"}}}.Encode()},
		{Op: wire.MakeQueue, A: "q", N: 2},
	}
}

// ask lets a session ask, and holds the answer's error to be another one; beside an error there is nothing.
func ask(t *testing.T, w *world.World, session int, a wire.Ask, e api.Errno) wire.Answer {
	t.Helper()
	x := w.Do(asking(session, a))
	want(t, fmt.Sprint("session ", session, " asks ", a), x.E, e)
	if x.E != api.OK {
		wantAnswer(t, "beside an error", x, wire.Fail(x.E))
	}
	return x
}

// asks lets a session ask, one behind the other, what is all answered by OK.
func asks(t *testing.T, w *world.World, session int, list ...wire.Ask) wire.Answer {
	t.Helper()
	var x wire.Answer
	for _, a := range list {
		x = ask(t, w, session, a, api.OK)
	}
	return x
}

// once lets session 15 ask in a transaction of its own, that is committed: its number.
func once(t *testing.T, w *world.World, list ...wire.Ask) int {
	t.Helper()
	asks(t, w, 15, begin)
	asks(t, w, 15, list...)
	return asks(t, w, 15, commit).N
}

// does does a step, and holds its answer to be that of an error, or of none, alone.
func does(t *testing.T, w *world.World, s world.Step, e api.Errno) {
	t.Helper()
	wantAnswer(t, fmt.Sprint(s), w.Do(s), wire.Answer{E: e})
}

// made is a world of much room with the collection and the queue, behind commit 1.
func made(t *testing.T) *world.World {
	t.Helper()
	w := world.New(disk.MaxRoom)
	wantNum(t, "commit", once(t, w, makes()...), 1)
	return w
}

// stateOf is all that a store tells, as bytes.
func stateOf(t *testing.T, s *store.Store) string {
	t.Helper()
	text, e := rec.Of(s).Encode()
	want(t, "State", e, api.OK)
	return text
}

// down lets the power fail.
func down(t *testing.T, w *world.World) {
	t.Helper()
	does(t, w, world.Step{Kind: world.Fall}, api.OK)
	does(t, w, world.Step{Kind: world.Save}, api.ErrDown)
	if w.Broker() != nil {
		t.Error("a broker without power")
	}
}

// crash lets the power come back.
func crash(t *testing.T, w *world.World, keep ...int) {
	t.Helper()
	does(t, w, world.Step{Kind: world.Crash, Keep: keep}, api.OK)
	if w.Broker() == nil {
		t.Fatal("no broker")
	}
}

// P21.1: New is a broker at 0, over an empty disk.
func TestNew(t *testing.T) {
	for _, room := range []int{math.MinInt, -1, 0, 1, 1000, disk.MaxRoom, disk.MaxRoom + 1, math.MaxInt} {
		w := world.New(room)
		b := w.Broker()
		if b == nil {
			t.Fatal("no broker:", room)
		}
		wantNum(t, "Now", w.Now(), 0)
		wantNum(t, "broker's Now", b.Now(), 0)
		wantNum(t, "Last", b.Store().Last(), 0)
		wantNum(t, "Horizon", b.Horizon(), 0)
		for session := range broker.MaxSessions {
			if b.Open(session) {
				t.Error("open", session)
			}
		}
		if w.Broker() != b {
			t.Error("another broker")
		}
	}
}

// P21.1: the disk is of that room, also behind a Crash.
func TestRoom(t *testing.T) {
	long := wire.Ask{Op: wire.Send, A: "q", B: strings.Repeat("x", 2000)}
	for _, room := range []int{-1, 0, 100, 2300, 4400, 4500, 100000, disk.MaxRoom, disk.MaxRoom + 5000} {
		w := world.New(room)
		b, e := broker.Start(disk.New(room), 0)
		want(t, "Start", e, api.OK)
		for _, list := range append([][]wire.Ask{makes()}, slices.Repeat([][]wire.Ask{{long}}, disk.MaxRoom/2000+4)...) {
			for _, a := range append(append([]wire.Ask{begin}, list...), commit) {
				wantAnswer(t, fmt.Sprint(room, a.Op), w.Do(asking(0, a)), b.Do(0, bytesOf(a)))
			}
		}
		is := stateOf(t, b.Store())
		wantText(t, "committed", stateOf(t, w.Broker().Store()), is)
		crash(t, w)
		wantText(t, "behind a Crash", stateOf(t, w.Broker().Store()), is)
		asks(t, w, 0, begin, wire.Ask{Op: wire.MakeQueue, A: "z", N: 1})
		b.Do(0, bytesOf(begin))
		b.Do(0, bytesOf(wire.Ask{Op: wire.MakeQueue, A: "z", N: 1}))
		wantAnswer(t, fmt.Sprint(room, " behind a Crash"), w.Do(asking(0, commit)), b.Do(0, bytesOf(commit)))
	}
}

// P21.1: Tick.
func TestTick(t *testing.T) {
	w := world.New(1000)
	tick := func(n int, e api.Errno, now int) {
		t.Helper()
		does(t, w, world.Step{Kind: world.Tick, N: n}, e)
		wantNum(t, "Now", w.Now(), now)
		if b := w.Broker(); b != nil {
			wantNum(t, "broker's Now", b.Now(), now)
		}
	}
	for _, n := range []int{-1, -1000, math.MinInt, api.MaxTime + 1, math.MaxInt} {
		tick(n, api.ErrArg, 0)
	}
	tick(0, api.OK, 0)
	tick(7, api.OK, 7)
	tick(1, api.OK, 8)
	tick(api.MaxTime-7, api.ErrArg, 8)
	tick(-8, api.ErrArg, 8)
	down(t, w)
	tick(-1, api.ErrArg, 8)
	tick(2, api.OK, 10)
	tick(api.MaxTime, api.ErrArg, 10)
	crash(t, w)
	wantNum(t, "Now", w.Now(), 10)
	wantNum(t, "broker's Now", w.Broker().Now(), 10)
	tick(api.MaxTime-10, api.OK, api.MaxTime)
	tick(0, api.OK, api.MaxTime)
	tick(1, api.ErrArg, api.MaxTime)
	tick(math.MaxInt, api.ErrArg, api.MaxTime)
	crash(t, w)
	tick(0, api.OK, api.MaxTime)
}

// P21.1: time goes by for those who ask.
func TestTimes(t *testing.T) {
	w := made(t)
	once(t, w, send)
	asks(t, w, 0, begin, take, commit, begin)
	ask(t, w, 0, take, api.ErrNone)
	does(t, w, world.Step{Kind: world.Tick, N: 5}, api.OK)
	ask(t, w, 0, take, api.ErrNone)
	asks(t, w, 0, abort, begin, take)
}

// P21.1: a broker that was ticked by itself is late by itself.
func TestTickOfBroker(t *testing.T) {
	w := world.New(1000)
	want(t, "Tick", w.Broker().Tick(5), api.OK)
	wantNum(t, "Now", w.Now(), 0)
	does(t, w, world.Step{Kind: world.Tick, N: 2}, api.OK)
	wantNum(t, "Now", w.Now(), 2)
	wantNum(t, "broker's Now", w.Broker().Now(), 7)
	crash(t, w)
	wantNum(t, "Now", w.Now(), 2)
	wantNum(t, "broker's Now", w.Broker().Now(), 2)
	want(t, "Tick", w.Broker().Tick(api.MaxTime-2), api.OK)
	does(t, w, world.Step{Kind: world.Tick, N: 2}, api.OK)
	wantNum(t, "Now", w.Now(), 4)
}

// Example 1: Fall of 0, and any Commit that wrote something answers ErrDown, and so does all that is asked until a Crash.
func TestFallOfNought(t *testing.T) {
	for _, n := range []int{0, -1, math.MinInt} {
		w := made(t)
		asks(t, w, 0, begin)
		does(t, w, world.Step{Kind: world.Fall, N: n}, api.OK)
		asks(t, w, 0, commit, begin, send)
		asks(t, w, 1, begin, send)
		if w.Broker() == nil {
			t.Error("no power ahead of a turn")
		}
		ask(t, w, 0, commit, api.ErrDown)
		wantDown(t, w)
		crash(t, w)
		wantNum(t, "Last", w.Broker().Store().Last(), 1)
		ask(t, w, 1, commit, api.ErrTurn)
		wantNum(t, "commit", once(t, w, send), 2)
	}
}

// wantDown holds a world to have no power.
func wantDown(t *testing.T, w *world.World) {
	t.Helper()
	if w.Broker() != nil {
		t.Error("a broker without power")
	}
	for op := wire.Begin; op <= wire.Unwatch; op++ {
		for _, session := range []int{0, 1, 15} {
			ask(t, w, session, wire.Ask{Op: op, A: "q", N: 1, M: 1}, api.ErrDown)
		}
	}
	for _, s := range []world.Step{
		{Kind: world.Ask}, {Kind: world.Ask, Text: "x"}, {Kind: world.Ask, Session: -1}, {Kind: world.Ask, Session: 16, Text: strings.Repeat("x", wire.MaxAsk+1)},
		{Kind: world.Reap}, {Kind: world.Reap, N: 5}, {Kind: world.Reap, N: -1}, {Kind: world.Clean}, {Kind: world.Save},
		{}, {Kind: -1}, {Kind: world.Crash + 1}, // all others, also of another Kind
	} {
		does(t, w, s, api.ErrDown)
	}
	does(t, w, world.Step{Kind: world.Fall, N: 1000}, api.OK)
	does(t, w, world.Step{Kind: world.Clean}, api.ErrDown)
}

// P21.1: the power fails behind so many turns; said again it counts anew; a Crash is a disk that doesn't fall.
func TestFall(t *testing.T) {
	for turns := range 6 {
		for _, anew := range []bool{false, true} {
			w := made(t)
			if anew {
				does(t, w, world.Step{Kind: world.Fall, N: 1}, api.OK)
			}
			does(t, w, world.Step{Kind: world.Fall, N: turns, Session: 99, Text: "x", Keep: []int{-1}}, api.OK)
			for range turns / 2 { // each an Append and a Sync
				once(t, w, send)
			}
			asks(t, w, 0, begin, send)
			ask(t, w, 0, commit, api.ErrDown)
			wantDown(t, w)
			crash(t, w)
			for range 10 {
				once(t, w, send)
			}
		}
	}
}

// P21.1: Save's turns count, too: Append, Sync, Rename, Truncate.
func TestFallInSave(t *testing.T) {
	for turns := range 6 {
		w := made(t)
		is := stateOf(t, w.Broker().Store())
		does(t, w, world.Step{Kind: world.Fall, N: turns}, api.OK)
		if turns < 4 {
			does(t, w, world.Step{Kind: world.Save}, api.ErrDown)
			wantDown(t, w)
		} else {
			does(t, w, world.Step{Kind: world.Save}, api.OK)
		}
		crash(t, w, 1, 1000, 3)
		wantText(t, "behind it", stateOf(t, w.Broker().Store()), is)
	}
}

// P21.1, P21.3: a Crash keeps what it is told of what wasn't safe: of the one file that is there, the log.
func TestKeep(t *testing.T) {
	for _, x := range []struct {
		keep []int
		last int
	}{
		{nil, 1}, {[]int{}, 1}, {[]int{0}, 1}, {[]int{-1}, 1}, {[]int{math.MinInt, 1000}, 1}, {[]int{20}, 1}, {[]int{0, 1000, 1000}, 1},
		{[]int{1000}, 2}, {[]int{math.MaxInt}, 2}, {[]int{disk.MaxRoom, 0, 0}, 2},
	} {
		w := made(t)
		asks(t, w, 0, begin, send)
		does(t, w, world.Step{Kind: world.Fall, N: 1}, api.OK)
		ask(t, w, 0, commit, api.ErrDown)
		keep := slices.Clone(x.keep)
		crash(t, w, keep...)
		wantNum(t, fmt.Sprint("Last behind ", x.keep), w.Broker().Store().Last(), x.last)
		wantNum(t, fmt.Sprint("Live behind ", x.keep), w.Broker().Live("q"), x.last-1)
		if !slices.Equal(keep, x.keep) {
			t.Errorf("%v turned to %v", x.keep, keep)
		}
	}
}

// P21.1, P2: behind a Crash, with power ahead of it or not, transactions, claims and marks are gone, and what was committed stays.
func TestCrash(t *testing.T) {
	for _, falls := range []bool{false, true} {
		w := made(t)
		once(t, w, send)
		does(t, w, world.Step{Kind: world.Tick, N: 9}, api.OK)
		asks(t, w, 0, begin, take)
		asks(t, w, 1, begin, send)
		asks(t, w, 2, wire.Ask{Op: wire.Watch, N: 1})
		old, is := w.Broker(), stateOf(t, w.Broker().Store())
		if falls {
			down(t, w)
		}
		does(t, w, world.Step{Kind: world.Crash, Session: 99, N: -5, Text: "x", Keep: []int{1000, 1000, 1000}}, api.OK)
		b := w.Broker()
		if b == nil || b == old {
			t.Fatal("no broker of its own")
		}
		wantText(t, "behind a Crash", stateOf(t, b.Store()), is)
		wantNum(t, "Now", w.Now(), 9)
		wantNum(t, "broker's Now", b.Now(), 9)
		for session := range 3 {
			if b.Open(session) {
				t.Error("open", session)
			}
		}
		wantNum(t, "Horizon", b.Horizon(), 2)
		ask(t, w, 2, wire.Ask{Op: wire.Poll, N: 1, M: 1}, api.ErrNone)
		wantNum(t, "mark", asks(t, w, 2, wire.Ask{Op: wire.Watch, N: 1}).N, 1)
		wantNum(t, "Count", asks(t, w, 3, begin, take).N, 1)
	}
}

// P21.1: whoever has the broker that there was ahead of a Crash turns nothing of the world.
func TestOldBroker(t *testing.T) {
	w := made(t)
	old := w.Broker()
	crash(t, w)
	old.Do(0, bytesOf(begin))
	old.Do(0, bytesOf(send))
	wantAnswer(t, "of the old broker", old.Do(0, bytesOf(commit)), wire.Answer{N: 2})
	wantNum(t, "Last", w.Broker().Store().Last(), 1)
	crash(t, w, 1000, 1000, 1000)
	wantNum(t, "Last", w.Broker().Store().Last(), 1)
}

// P21.1: Now is the broker's behind a Crash: that of the last commit, if that is later.
func TestNowBehindCrash(t *testing.T) {
	for _, at := range []int{0, 5, 6, 1000, api.MaxTime} {
		w := world.New(1000)
		does(t, w, world.Step{Kind: world.Tick, N: 5}, api.OK)
		_, e := w.Broker().Commit([]api.Write{{Key: "a", Val: "x"}}, 0, at)
		want(t, "Commit", e, api.OK)
		wantNum(t, "Now", w.Now(), 5)
		crash(t, w)
		wantNum(t, "Now behind a Crash", w.Now(), max(5, at))
		wantNum(t, "broker's Now", w.Broker().Now(), max(5, at))
		down(t, w)
		wantNum(t, "Now without power", w.Now(), max(5, at))
	}
}

// P21.1: Ask is the broker's Do of Session and Text.
func TestAsk(t *testing.T) {
	w := made(t)
	b, e := broker.Start(disk.New(disk.MaxRoom), 0)
	want(t, "Start", e, api.OK)
	for _, a := range append(append([]wire.Ask{begin}, makes()...), commit) {
		b.Do(15, bytesOf(a))
	}
	texts := []string{"", "x", strings.Repeat("x", wire.MaxAsk), strings.Repeat("x", wire.MaxAsk+1)}
	for _, a := range []wire.Ask{commit, begin, send, send, take, put("1", 0), {Op: wire.Get, A: "c", B: "1"}, {Op: wire.Scan, A: "c", N: 9}, commit, {Op: wire.Watch}, {Op: wire.Poll, N: 1, M: 5}, commit} {
		texts = append(texts, bytesOf(a))
	}
	for _, text := range texts {
		for _, session := range []int{0, 3, 15, -1, 16, math.MinInt, math.MaxInt} {
			s := world.Step{Kind: world.Ask, Session: session, Text: text, N: -7, Keep: []int{-1}}
			wantAnswer(t, fmt.Sprintf("%.30q of %d", text, session), w.Do(s), b.Do(session, text))
		}
	}
	wantText(t, "committed", stateOf(t, w.Broker().Store()), stateOf(t, b.Store()))
}

// P21.1: Reap tells how many went.
func TestReap(t *testing.T) {
	w := made(t)
	for i := range 25 {
		once(t, w, put(fmt.Sprintf("%02d", i), 3))
	}
	reap := func(most, n int) {
		t.Helper()
		wantAnswer(t, fmt.Sprint("Reap of ", most), w.Do(world.Step{Kind: world.Reap, N: most, Session: 99, Text: "x"}), wire.Answer{N: n})
	}
	reap(5, 0)
	does(t, w, world.Step{Kind: world.Tick, N: 3}, api.OK)
	reap(0, 0)
	reap(-1, 0)
	reap(2, 2)
	reap(1000, 20)
	reap(1000, 3)
	reap(1000, 0)
	wantNum(t, "Last", w.Broker().Store().Last(), 29)
}

// P21.1: Reap's errors, without a number.
func TestReapFails(t *testing.T) {
	w := world.New(400)
	once(t, w, makes()...)
	asks(t, w, 0, begin, put("1", 1), put("2", 1), commit)
	does(t, w, world.Step{Kind: world.Tick, N: 1}, api.OK)
	asks(t, w, 0, begin, wire.Ask{Op: wire.Send, A: "q", B: strings.Repeat("x", 70)}, commit)
	does(t, w, world.Step{Kind: world.Reap, N: 5}, api.ErrFull)
	does(t, w, world.Step{Kind: world.Fall}, api.OK)
	does(t, w, world.Step{Kind: world.Reap, N: 5}, api.ErrDown)
	wantDown(t, w)
	crash(t, w)
	wantNum(t, "Last", w.Broker().Store().Last(), 3)
}

// P21.1: Clean lets go what nobody sees.
func TestClean(t *testing.T) {
	w := made(t)
	once(t, w, send)
	asks(t, w, 0, wire.Ask{Op: wire.Watch, N: 1})
	once(t, w, send)
	for _, low := range []int{1, 3} {
		does(t, w, world.Step{Kind: world.Clean, N: -1, Session: 99}, api.OK)
		wantNum(t, "Low", w.Broker().Store().Low(), low)
		w.Do(asking(0, wire.Ask{Op: wire.Unwatch, N: 1}))
	}
	crash(t, w)
	wantNum(t, "Low of what is on the disk", w.Broker().Store().Low(), 0)
}

// P21.1: Save writes a state, or tells why not.
func TestSave(t *testing.T) {
	w := made(t)
	once(t, w, send)
	does(t, w, world.Step{Kind: world.Clean}, api.OK)
	does(t, w, world.Step{Kind: world.Save, N: -1, Session: 99}, api.OK)
	crash(t, w)
	wantNum(t, "Low of what is on the disk", w.Broker().Store().Low(), 2)
	wantNum(t, "Last", w.Broker().Store().Last(), 2)
}

// P21.1: a Save that has no room turns nothing.
func TestSaveFails(t *testing.T) {
	room := 0
	for e := api.ErrFull; e != api.OK; room++ {
		w := world.New(room + 1)
		asks(t, w, 0, append([]wire.Ask{begin}, makes()...)...)
		e = w.Do(asking(0, commit)).E
	}
	w := world.New(room)
	once(t, w, makes()...)
	is := stateOf(t, w.Broker().Store())
	does(t, w, world.Step{Kind: world.Save}, api.ErrFull)
	wantText(t, "behind it", stateOf(t, w.Broker().Store()), is)
	crash(t, w, 1000, 1000, 1000)
	wantText(t, "behind a Crash", stateOf(t, w.Broker().Store()), is)
}

// P21.1: Steps of another Kind turn nothing.
func TestOtherKinds(t *testing.T) {
	w := made(t)
	asks(t, w, 0, begin, send)
	for _, kind := range []world.Kind{0, -1, world.Crash + 1, 9, 255, 256 + world.Tick, 1<<32 + world.Crash, math.MinInt, math.MaxInt} {
		does(t, w, world.Step{Kind: kind, N: 1, Text: bytesOf(commit), Keep: []int{1}}, api.ErrArg)
	}
	wantNum(t, "Now", w.Now(), 0)
	wantNum(t, "commit", asks(t, w, 0, commit).N, 2)
}

// kinds are a step of each Kind, and of others.
func kinds() []world.Step {
	list := []world.Step{{}, {Kind: world.Crash + 1}}
	for kind := world.Ask; kind <= world.Crash; kind++ {
		list = append(list, world.Step{Kind: kind, N: 1, Text: bytesOf(begin)})
	}
	return list
}

// P21.1: a nil World.
func TestNil(t *testing.T) {
	var w *world.World
	for _, s := range kinds() {
		does(t, w, s, api.ErrArg)
	}
	if w.Broker() != nil || w.Now() != 0 {
		t.Error("something")
	}
}

// Rule 1: a World that New didn't make has no power, till a Crash.
func TestZero(t *testing.T) {
	for _, s := range kinds() {
		var w world.World
		w.Do(s)
		if is := s.Kind == world.Crash; (w.Broker() != nil) != is {
			t.Error("broker of", s)
		}
	}
	w := new(world.World)
	does(t, w, world.Step{Kind: world.Tick, N: 3}, api.OK)
	does(t, w, world.Step{Kind: world.Fall, N: 3}, api.OK)
	wantDown(t, w)
	crash(t, w)
	wantNum(t, "broker's Now", w.Broker().Now(), 3)
	wantNum(t, "commit", once(t, w, makes()...), 1)
}

// P21.1: worlds are apart.
func TestApart(t *testing.T) {
	one, other := made(t), world.New(1000)
	once(t, one, send)
	does(t, one, world.Step{Kind: world.Tick, N: 5}, api.OK)
	down(t, one)
	wantNum(t, "Now", other.Now(), 0)
	wantNum(t, "commit", once(t, other, makes()...), 1)
	crash(t, one)
	wantNum(t, "Last", one.Broker().Store().Last(), 2)
}

// Rule 4: an answer is new memory.
func TestAnswersStay(t *testing.T) {
	w := made(t)
	once(t, w, send)
	asks(t, w, 0, begin)
	list := []wire.Ask{{Op: wire.Watch}, {Op: wire.Poll, N: 1, M: 5}}
	x := asks(t, w, 0, list...)
	is := slices.Clone(x.Texts)
	y := asks(t, w, 0, wire.Ask{Op: wire.Watch}, wire.Ask{Op: wire.Poll, N: 2, M: 5})
	y.Texts[0] = "turned"
	if !slices.Equal(x.Texts, is) {
		t.Error("turned")
	}
}
