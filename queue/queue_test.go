package queue_test

import (
	"fmt"
	"math"
	"strings"
	"testing"

	"mailbag/api"
	"mailbag/octet"
	"mailbag/ord"
	"mailbag/queue"
	"mailbag/store"
	"mailbag/txn"
)

// now is the time of most transactions here.
const now = 100

// q is a queue, in short.
func q(name string, most int, dead string) queue.Queue {
	return queue.Queue{Name: name, Max: most, Dead: dead}
}

// long is a text of so many bytes.
func long(n int) string { return strings.Repeat("x", n) }

// nobody is at no key.
func nobody(string) bool { return false }

// over is a transaction over such queues, at a time.
func over(t *testing.T, at int, list ...queue.Queue) *txn.Txn {
	t.Helper()
	s, _ := store.New(0, nil)
	x := txn.Begin(s, at, 1)
	for _, c := range list {
		want(t, "Make", queue.Make(x, c), api.OK)
	}
	return later(t, x, at)
}

// later is a transaction over what another one sees, at a time.
func later(t *testing.T, x *txn.Txn, at int) *txn.Txn {
	t.Helper()
	var list []api.Write
	for key, v := range x.Range("", "") {
		list = append(list, api.Write{Key: key, Val: v})
	}
	s, e := store.New(x.Snap()+1, list)
	want(t, "New", e, api.OK)
	return txn.Begin(s, at, 1)
}

// full writes to a transaction till it has room for so many keys more.
func full(t *testing.T, x *txn.Txn, room int) {
	t.Helper()
	for i := len(x.Writes()); i < api.MaxWrites-room; i++ {
		raw(t, x, fmt.Sprint("\x01", i), "")
	}
}

// raw writes a key as it is.
func raw(t *testing.T, x *txn.Txn, key, v string) {
	t.Helper()
	want(t, fmt.Sprintf("the write of %q", key), x.Put(key, v), api.OK)
}

// lay lays a message into a queue, as it is.
func lay(t *testing.T, x *txn.Txn, name string, m queue.Message) {
	t.Helper()
	raw(t, x, queue.Place(name, m.ID), m.Encode())
}

// want holds an answer to be such an error.
func want(t *testing.T, what string, got, e api.Errno) {
	t.Helper()
	if got != e {
		t.Errorf("%s: %d, not %d", what, got, e)
	}
}

// wantText holds an answer to be such a text.
func wantText(t *testing.T, what, got, text string) {
	t.Helper()
	if got != text {
		t.Errorf("%s: %q, not %q", what, got, text)
	}
}

// wantOf holds there to be such a queue.
func wantOf(t *testing.T, x *txn.Txn, c queue.Queue) {
	t.Helper()
	if got, e := queue.Of(x, c.Name); e != api.OK || got != c {
		t.Errorf("Of: %v, %d, not %v", got, e, c)
	}
}

// wantNone holds there to be no queue of a name, for such a reason.
func wantNone(t *testing.T, x *txn.Txn, name string, e api.Errno) {
	t.Helper()
	if got, other := queue.Of(x, name); other != e || got != (queue.Queue{}) {
		t.Errorf("Of %q: %v, %d, not %d", name, got, other, e)
	}
}

// send sends a body, and tells its id.
func send(t *testing.T, x *txn.Txn, name, body string, delay int) string {
	t.Helper()
	id, e := queue.Send(x, name, body, delay)
	want(t, "Send of "+body, e, api.OK)
	return id
}

// wantNotSent holds a Send to tell an error, and nothing else.
func wantNotSent(t *testing.T, x *txn.Txn, name, body string, delay int, e api.Errno) {
	t.Helper()
	if id, other := queue.Send(x, name, body, delay); id != "" || other != e {
		t.Errorf("Send to %q: %q, %d, not %d", name, id, other, e)
	}
}

// take takes a message, by anybody.
func take(t *testing.T, x *txn.Txn, name string, lease int) queue.Message {
	t.Helper()
	m, e := queue.Take(x, name, lease, nobody)
	want(t, "Take of "+name, e, api.OK)
	return m
}

// wantNotTaken holds a Take to tell an error, and nothing else.
func wantNotTaken(t *testing.T, x *txn.Txn, name string, lease int, e api.Errno) {
	t.Helper()
	if m, other := queue.Take(x, name, lease, nobody); other != e || m != (queue.Message{}) {
		t.Errorf("Take of %q: %v, %d, not %d", name, m, other, e)
	}
}

// wantKept holds a message to be kept in a queue.
func wantKept(t *testing.T, x *txn.Txn, name string, m queue.Message) {
	t.Helper()
	s, is := x.Get(queue.Place(name, m.ID))
	if got, e := queue.Decode(m.ID, s); !is || e != api.OK || got != m {
		t.Errorf("kept in %q: %v, %d, not %v", name, got, e, m)
	}
}

// wantGone holds no message to be kept in a queue by an id.
func wantGone(t *testing.T, x *txn.Txn, name, id string) {
	t.Helper()
	if s, is := x.Get(queue.Place(name, id)); is {
		t.Errorf("kept in %q: %q", name, s)
	}
}

// wantLive holds queues to have so many messages.
func wantLive(t *testing.T, x *txn.Txn, name string, n int) {
	t.Helper()
	if got := queue.Live(x, name); got != n {
		t.Errorf("Live of %q: %d, not %d", name, got, n)
	}
}

// told is all that a transaction sees and wrote, as text.
func told(x *txn.Txn) string {
	var b strings.Builder
	for key, v := range x.Range("", "") {
		fmt.Fprintf(&b, "%q %q\n", key, v)
	}
	for _, w := range x.Writes() {
		fmt.Fprintf(&b, "%q %q %t\n", w.Key, w.Val, w.Gone)
	}
	return b.String()
}

// The chapter's example.
func TestExample(t *testing.T) {
	x := over(t, now, q("q", 1, ""))
	id := send(t, x, "q", "a", 0)
	m := take(t, x, "q", 5)
	wantText(t, "taken", m.ID, id)
	want(t, "Ack", queue.Ack(x, "q", id, m.Token), api.OK)
	wantGone(t, x, "q", id)
	wantLive(t, x, "q", 0)
}

// rightQueues are queues.
func rightQueues() []queue.Queue {
	return []queue.Queue{
		q("q", 1, ""), q("Q", 1000, "q"), q("\x00", 2, "\x00\x00"), q(long(40), 255, long(39)), q(long(39), 256, long(40)),
		q(strings.Repeat("\xff", 40), 999, strings.Repeat("\x00", 40)),
	}
}

// wrongQueues are none.
func wrongQueues() []queue.Queue {
	return []queue.Queue{
		{}, q("", 1, ""), q("", 1, "d"), q(long(41), 1, ""), q(long(1<<20), 1, ""), q("q", 0, ""), q("q", -1, ""), q("q", 1001, ""),
		q("q", math.MinInt, ""), q("q", math.MaxInt, ""), q("q", 1, "q"), q("q", 1, long(41)), q("q", 1, long(1<<20)), q(long(40), 1, long(40)),
	}
}

// P15.1
func TestRight(t *testing.T) {
	for _, c := range rightQueues() {
		if !c.Right() {
			t.Errorf("%v isn't right", c)
		}
	}
	for i, c := range wrongQueues() {
		if c.Right() {
			t.Error(i, "is right")
		}
	}
	if queue.MaxBody != 2000 {
		t.Error(queue.MaxBody)
	}
}

// P15.1: what is kept, byte by byte, and what is told of it.
func TestMakeAndOf(t *testing.T) {
	x := over(t, now)
	want(t, "Make", queue.Make(x, q("a\x00", 300, "dead")), api.OK)
	want(t, "Make", queue.Make(x, q("b", 1, "")), api.OK)
	wantText(t, "kept", told(later(t, x, now)), fmt.Sprintf("%q %q\n%q %q\n", "q\x00\x01a\x00\xff\x00\x01", "\x02\x01\x2c\x01\x04dead", "q\x00\x01b\x00\x01", "\x01\x01\x00"))
	x = over(t, now)
	for _, c := range rightQueues() {
		wantNone(t, x, c.Name, api.ErrNone)
		want(t, "Make", queue.Make(x, c), api.OK)
		wantOf(t, x, c)
		for _, again := range []queue.Queue{c, q(c.Name, 7, ""), q(c.Name, 1, "other")} {
			want(t, "Make again", queue.Make(x, again), api.ErrTwice)
		}
	}
	for _, at := range []*txn.Txn{x, later(t, x, now)} {
		for _, c := range rightQueues() {
			wantOf(t, at, c)
			want(t, "Make again", queue.Make(at, c), api.ErrTwice)
			if v, _ := at.Get(ord.Key("q", c.Name)); v != string(octet.Text(octet.Num(nil, c.Max), c.Dead)) {
				t.Errorf("%v: %q", c, v)
			}
		}
	}
	if n := len(x.Writes()); n != len(rightQueues()) {
		t.Error(n)
	}
}

// P15.1: ErrArg is ahead of ErrTwice; layer 10's errors end all; and nothing is written.
func TestMakeOfWrong(t *testing.T) {
	x := over(t, now, q("q", 1, ""))
	for _, c := range wrongQueues() {
		want(t, "Make", queue.Make(x, c), api.ErrArg)
		if c.Name != "q" {
			wantNone(t, x, c.Name, api.ErrNone)
		}
	}
	full(t, x, 1)
	want(t, "the last one", queue.Make(x, q("a", 1, "")), api.OK)
	want(t, "one more", queue.Make(x, q("b", 1, "")), api.ErrLong)
	want(t, "one that is there", queue.Make(x, q("q", 1, "")), api.ErrTwice)
	want(t, "none", queue.Make(x, q("", 1, "")), api.ErrArg)
	wantNone(t, x, "b", api.ErrNone)
	wantOf(t, x, q("a", 1, ""))
}

// P15.1: all other calls first tell Of's error; and nothing is turned.
func TestNoQueue(t *testing.T) {
	x := over(t, now, q("q", 1, ""))
	m := queue.Message{ID: "a", Ready: now + 1, Token: "t"}
	raw(t, x, ord.Key("q", "bad"), "")
	names := map[string]api.Errno{"": api.ErrNone, "Q": api.ErrNone, "q\x00": api.ErrNone, "none": api.ErrNone, long(41): api.ErrNone, long(1000): api.ErrNone, "bad": api.ErrBad}
	for name := range names {
		if len(name) < 50 {
			lay(t, x, name, m)
		}
	}
	ahead, id := told(x), x.ID()
	for name, e := range names {
		wantNotSent(t, x, name, long(2001), -1, e)
		wantNotSent(t, x, name, "", 0, e)
		wantNotTaken(t, x, name, 0, e)
		wantNotTaken(t, x, name, 1, e)
		want(t, "Ack", queue.Ack(x, name, "a", "t"), e)
		want(t, "Nack", queue.Nack(x, name, "a", "t", 0), e)
		want(t, "Extend", queue.Extend(x, name, "a", "t", 0), e)
		want(t, "Ack of none", queue.Ack(x, name, "b", ""), e)
	}
	wantText(t, "behind that", told(x), ahead)
	if next, _ := ord.Number(x.ID()[16:]); next != 2 {
		t.Errorf("%q, then number %d", id, next)
	}
}

// A nil transaction has nothing, and takes nothing.
func TestNil(t *testing.T) {
	want(t, "Make", queue.Make(nil, q("q", 1, "")), api.ErrArg)
	wantNone(t, nil, "q", api.ErrNone)
	wantNotSent(t, nil, "q", "", 0, api.ErrNone)
	wantNotTaken(t, nil, "q", 1, api.ErrNone)
	want(t, "Ack", queue.Ack(nil, "q", "a", "t"), api.ErrNone)
	want(t, "Nack", queue.Nack(nil, "q", "a", "t", 1), api.ErrNone)
	want(t, "Extend", queue.Extend(nil, "q", "a", "t", 1), api.ErrNone)
	wantLive(t, nil, "q", 0)
}

// P15.3
func TestSend(t *testing.T) {
	x := over(t, now, q("q", 1, ""), q("r", 1, "q"))
	count := 0
	for _, name := range []string{"q", "r"} {
		for _, body := range []string{"", "\x00", "a", long(1999), long(2000)} {
			for _, delay := range []int{0, 1, 300, api.MaxTime} {
				count++
				id := send(t, x, name, body, delay)
				wantText(t, "its id", id, string(ord.Int(ord.Int(ord.Int(nil, 1), 1), int64(count))))
				wantKept(t, x, name, queue.Message{ID: id, Body: body, Ready: now + delay})
			}
		}
	}
	wantLive(t, x, "q", count/2)
	wantLive(t, x, "r", count/2)
	if n := len(x.Writes()); n != count {
		t.Error(n)
	}
	late := over(t, api.MaxTime, q("q", 1, ""))
	id := send(t, late, "q", "", api.MaxTime)
	wantKept(t, late, "q", queue.Message{ID: id, Ready: 2 * api.MaxTime})
}

// P15.3: wrong ones turn nothing, and make no id.
func TestSendOfWrong(t *testing.T) {
	x := over(t, now, q("q", 1, ""))
	ahead := told(x)
	for _, delay := range []int{math.MinInt, -1, api.MaxTime + 1, math.MaxInt} {
		wantNotSent(t, x, "q", "a", delay, api.ErrArg)
	}
	for _, n := range []int{2001, 4096, 1 << 20} {
		wantNotSent(t, x, "q", long(n), 0, api.ErrArg)
		wantNotSent(t, x, "q", long(n), -1, api.ErrArg)
	}
	wantText(t, "behind that", told(x), ahead)
	first := send(t, x, "q", "a", 0)
	wantText(t, "the first id", first[16:], string(ord.Int(nil, 1)))
	full(t, x, 1)
	send(t, x, "q", "b", 0)
	ahead = told(x)
	wantNotSent(t, x, "q", "c", 0, api.ErrLong)
	wantNotSent(t, x, "q", long(2001), 0, api.ErrArg)
	wantText(t, "behind that", told(x), ahead)
}

// P15.2
func TestLive(t *testing.T) {
	names := []string{"q", "q\x00", "qq", "\xff", "\xff\xff", long(40)}
	x := over(t, now)
	for _, name := range names {
		want(t, "Make", queue.Make(x, q(name, 3, "")), api.OK)
	}
	for i, name := range names {
		wantLive(t, x, name, 0)
		for range i + 1 {
			send(t, x, name, "", 7*i)
		}
	}
	for _, at := range []*txn.Txn{x, later(t, x, now), later(t, x, api.MaxTime)} {
		for i, name := range names {
			wantLive(t, at, name, i+1)
		}
		wantLive(t, at, "", 0)
		wantLive(t, at, "none", 0)
		wantLive(t, at, long(1000), 0)
		m := take(t, at, "q", 1)
		wantLive(t, at, "q", 1)
		want(t, "Ack", queue.Ack(at, "q", m.ID, m.Token), api.OK)
		wantLive(t, at, "q", 0)
	}
}
