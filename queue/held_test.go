package queue_test

import (
	"fmt"
	"math"
	"strings"
	"testing"

	"mailbag/api"
	"mailbag/ord"
	"mailbag/queue"
	"mailbag/txn"
)

// calls are the calls of who holds a message, each with a while that is right; Ack has none.
func calls() map[string]func(x *txn.Txn, name, id, token string, n int) api.Errno {
	return map[string]func(x *txn.Txn, name, id, token string, n int) api.Errno{
		"Ack": func(x *txn.Txn, name, id, token string, _ int) api.Errno {
			return queue.Ack(x, name, id, token)
		},
		"Nack":   queue.Nack,
		"Extend": queue.Extend,
	}
}

// whiles are how long no lease and no delay is.
func whiles() []int { return []int{math.MinInt, -1, 0, api.MaxTime + 1, math.MaxInt} }

// P15.5
func TestAck(t *testing.T) {
	x := over(t, now, q("q", 3, "d"), q("d", 3, ""))
	a, b := send(t, x, "q", "a", 0), send(t, x, "q", "b", 0)
	m, k := take(t, x, "q", 1), take(t, x, "q", api.MaxTime)
	want(t, "the other one's token", queue.Ack(x, "q", a, k.Token), api.ErrLease)
	want(t, "Ack", queue.Ack(x, "q", b, k.Token), api.OK)
	wantGone(t, x, "q", b)
	wantKept(t, x, "q", m)
	want(t, "Ack again", queue.Ack(x, "q", b, k.Token), api.ErrNone)
	want(t, "Ack", queue.Ack(later(t, x, now), "q", a, m.Token), api.OK)
	want(t, "Ack elsewhere", queue.Ack(x, "d", a, m.Token), api.ErrNone)
	wantLive(t, x, "q", 1)
	wantLive(t, x, "d", 0)
}

// P15.5
func TestNack(t *testing.T) {
	for _, delay := range []int{1, 7, api.MaxTime} {
		x := over(t, now, q("q", 3, ""))
		id := send(t, x, "q", "a", 0)
		m := take(t, x, "q", 9)
		want(t, "Nack", queue.Nack(x, "q", id, m.Token, delay), api.OK)
		wantKept(t, x, "q", queue.Message{ID: id, Body: "a", Ready: now + delay, Count: 1})
		for what, call := range calls() {
			want(t, what+" behind that", call(x, "q", id, m.Token, 1), api.ErrLease)
			want(t, what+" of no token", call(x, "q", id, "", 1), api.ErrLease)
		}
		wantNotTaken(t, x, "q", 1, api.ErrNone)
		x = later(t, x, now+delay-1)
		wantNotTaken(t, x, "q", 1, api.ErrNone)
		x = later(t, x, now+delay)
		if again := take(t, x, "q", 1); again.ID != id || again.Count != 2 || again.Token == m.Token {
			t.Error(again)
		}
	}
}

// P15.5: Extend is from Now on, be that later or earlier than it was.
func TestExtend(t *testing.T) {
	for _, lease := range []int{1, 9, 10, 11, api.MaxTime} {
		x := over(t, now, q("q", 3, ""))
		id := send(t, x, "q", "a", 0)
		m := take(t, x, "q", 20)
		x = later(t, x, now+10)
		want(t, "Extend", queue.Extend(x, "q", id, m.Token, lease), api.OK)
		m.Ready = now + 10 + lease
		wantKept(t, x, "q", m)
		for i := range 2 {
			want(t, "Extend", queue.Extend(x, "q", id, m.Token, 7+i), api.OK)
			m.Ready = now + 10 + 7 + i
			wantKept(t, x, "q", m)
		}
		x = later(t, x, now+17)
		want(t, "Extend at last", queue.Extend(x, "q", id, m.Token, 1), api.OK)
		x = later(t, x, now+18)
		want(t, "Extend too late", queue.Extend(x, "q", id, m.Token, 1), api.ErrLease)
		if again := take(t, x, "q", 1); again.Count != 2 {
			t.Error(again)
		}
	}
}

// P15.5: ErrNone is ahead of ErrLease, that is ahead of ErrArg; and nothing is turned.
func TestNotHeld(t *testing.T) {
	x := over(t, now, q("q", 3, ""), q("r", 3, ""))
	for _, m := range []queue.Message{
		{ID: "held", Ready: now + 1, Token: "t", Count: 1},
		{ID: "over", Ready: now, Token: "t", Count: 1},
		{ID: "long over", Token: "t", Count: 1},
		{ID: "new", Ready: now + 1},
		{ID: "old", Ready: now - 1},
	} {
		lay(t, x, "q", m)
	}
	ahead := told(x)
	for what, call := range calls() {
		for _, n := range append(whiles(), 1, api.MaxTime) {
			for _, id := range []string{"", "Held", "held\x00", long(1000)} {
				want(t, what+" of no message", call(x, "q", id, "t", n), api.ErrNone)
				want(t, what+" of no message and token", call(x, "q", id, "", n), api.ErrNone)
			}
			want(t, what+" of another queue's", call(x, "r", "held", "t", n), api.ErrNone)
			for _, token := range []string{"", "T", "t\x00", "tt", "x", long(1000)} {
				want(t, what+" by another token", call(x, "q", "held", token, n), api.ErrLease)
			}
			for _, id := range []string{"over", "long over", "new", "old"} {
				for _, token := range []string{"", "t", "x"} {
					want(t, what+" of "+id, call(x, "q", id, token, n), api.ErrLease)
				}
			}
		}
		if what == "Ack" {
			continue
		}
		for _, n := range whiles() {
			want(t, fmt.Sprint(what, " of ", n), call(x, "q", "held", "t", n), api.ErrArg)
		}
	}
	wantText(t, "behind that", told(x), ahead)
	for what, call := range calls() {
		for _, n := range []int{1, api.MaxTime} {
			want(t, what, call(later(t, x, now), "q", "held", "t", n), api.OK)
		}
	}
}

// P15.5: who held a message doesn't any more, when it is Ready again, or somebody else holds it.
func TestLeaseIsOver(t *testing.T) {
	for what, call := range calls() {
		x := over(t, now, q("q", 3, ""))
		id := send(t, x, "q", "a", 0)
		first := take(t, x, "q", 10)
		want(t, what+" in time", call(later(t, x, now+9), "q", id, first.Token, 1), api.OK)
		x = later(t, x, now+10)
		want(t, what+" too late", call(x, "q", id, first.Token, 1), api.ErrLease)
		second := take(t, x, "q", 10)
		if second.ID != id || second.Token == first.Token {
			t.Error(second)
		}
		want(t, what+" by the first token", call(x, "q", id, first.Token, 1), api.ErrLease)
		want(t, what+" by the second one", call(x, "q", id, second.Token, 1), api.OK)
	}
}

// P15.5: layer 10's errors of writing.
func TestHeldTooMany(t *testing.T) {
	for what, call := range calls() {
		x := over(t, now, q("q", 3, ""))
		id := send(t, x, "q", "a", 0)
		m := take(t, x, "q", 10)
		own := call(x, "q", id, m.Token, 1)
		want(t, what, own, api.OK)
		lay(t, x, "q", m)
		x = later(t, x, now)
		full(t, x, 0)
		ahead := told(x)
		want(t, what, call(x, "q", id, m.Token, 1), api.ErrLong)
		wantText(t, "behind that", told(x), ahead)
		if what != "Ack" {
			want(t, what+" of 0", call(x, "q", id, m.Token, 0), api.ErrArg)
		}
	}
}

// badBytes are bytes that no message has.
func badBytes() map[string]string {
	one := queue.Message{Ready: now, Token: "t", Body: "b"}.Encode()
	return map[string]string{
		"nothing":   "",
		"cut off":   one[:len(one)-1],
		"more":      one + "\x00",
		"Count":     "\x00\x02\x03\xe9\x00\x00",
		"no number": "\x01\x00\x00\x00\x00",
		"a text":    "text",
	}
}

// ErrBad, where what is kept isn't a message's; and nothing is turned, also not what is dead ahead of it.
func TestBad(t *testing.T) {
	for what, s := range badBytes() {
		x := over(t, now, q("q", 1, ""))
		lay(t, x, "q", queue.Message{ID: "a", Count: 1})
		lay(t, x, "q", queue.Message{ID: "c"})
		raw(t, x, queue.Place("q", "b"), s)
		ahead := told(x)
		wantNotTaken(t, x, "q", 1, api.ErrBad)
		wantNotTaken(t, x, "q", 0, api.ErrArg)
		for name, call := range calls() {
			want(t, what+": "+name, call(x, "q", "b", "t", 0), api.ErrBad)
			want(t, what+": "+name+" of another one", call(x, "q", "c", "t", 0), api.ErrLease)
		}
		wantText(t, what+": behind that", told(x), ahead)
		lay(t, x, "q", queue.Message{ID: "a"})
		wantText(t, "what is ahead of it", take(t, x, "q", 1).ID, "a")
	}
	for _, key := range []string{queue.Place("q", "b") + "x", ord.Key("m", "q", "b", ""), ord.Key("m", "q") + "b", ord.Key("m", "q")} {
		x := over(t, now, q("q", 1, ""))
		raw(t, x, key, queue.Message{}.Encode())
		wantNotTaken(t, x, "q", 1, api.ErrBad)
	}
}

// ErrBad, where what is kept isn't a queue's: nothing is laid over it, and no dead message is lost to it.
func TestBadQueue(t *testing.T) {
	for what, c := range map[string]struct{ name, kept string }{
		"nothing":        {"b", ""},
		"no number":      {"b", "\x01\x00\x00"},
		"cut off":        {"b", "\x01\x01\x01\x01"},
		"more":           {"b", "\x01\x01\x00\x00"},
		"Max 0":          {"b", "\x00\x00"},
		"Max 1001":       {"b", "\x02\x03\xe9\x00"},
		"Dead of itself": {"b", "\x01\x01\x01\x01b"},
		"a long Dead":    {"b", "\x01\x01\x01\x29" + strings.Repeat("d", 41)},
		"a long name":    {long(41), "\x01\x01\x00"},
		"no name":        {"", "\x01\x01\x00"},
	} {
		x := over(t, now)
		raw(t, x, ord.Key("q", c.name), c.kept)
		raw(t, x, ord.Key("q", "q"), "\x01\x01\x01"+string(rune(len(c.name)))+c.name)
		lay(t, x, "q", queue.Message{ID: "a", Count: 1})
		ahead := told(x)
		wantNone(t, x, c.name, api.ErrBad)
		if c.name == "b" {
			want(t, what+": Make", queue.Make(x, q("b", 1, "")), api.ErrTwice)
			wantNotTaken(t, x, "q", 1, api.ErrBad)
		}
		wantNotSent(t, x, c.name, "", 0, api.ErrBad)
		wantText(t, what+": behind that", told(x), ahead)
	}
}
