package queue

import (
	"strings"

	"mailbag/api"
	"mailbag/octet"
	"mailbag/ord"
	"mailbag/txn"
)

// maxReady is until when a message isn't Ready at most: a time, and the longest while behind it.
const maxReady = 2 * api.MaxTime

// Encode is what is kept of a message.
func (m Message) Encode() string {
	b := octet.Num(nil, m.Ready)
	b = octet.Num(b, m.Count)
	b = octet.Text(b, m.Token)
	b = octet.Text(b, m.Body)
	return string(b)
}

// Decode is the message of an id of which bytes are kept.
func Decode(id, s string) (Message, api.Errno) {
	r := octet.Read(s)
	m := Message{ID: id, Ready: r.Num(maxReady), Count: r.Num(maxCount), Token: r.Text(api.MaxKey), Body: r.Text(MaxBody)}
	if r.End() != api.OK {
		return Message{}, api.ErrBad
	}
	return m, api.OK
}

// readAt is the message of which bytes are kept at a key that begins as all of a queue do.
func readAt(queue, key, s string) (Message, api.Errno) {
	id, rest, is := ord.Cut(strings.TrimPrefix(key, ahead(queue)))
	if !is || rest != "" {
		return Message{}, api.ErrBad
	}
	return Decode(id, s)
}

// keep writes a message into a queue.
func (m Message) keep(t *txn.Txn, queue string) api.Errno {
	return t.Put(Place(queue, m.ID), m.Encode())
}

// held is the message of an id that is leased by a token.
func held(t *txn.Txn, queue, id, token string) (Message, api.Errno) {
	if _, e := Of(t, queue); e != api.OK {
		return Message{}, e
	}
	s, is := t.Get(Place(queue, id))
	if !is {
		return Message{}, api.ErrNone
	}
	m, e := Decode(id, s)
	if e != api.OK {
		return Message{}, e
	}
	if m.Token == "" || m.Token != token || m.Ready <= t.Now() {
		return Message{}, api.ErrLease
	}
	return m, api.OK
}

// ahead is what all places of a queue's messages begin with.
func ahead(queue string) string { return ord.Key(ofMessage, queue) }

// places is where the places of a queue's messages begin, and what is above them all.
func places(queue string) (string, string) {
	from := ahead(queue)
	to, _ := ord.After(from) // there is such, as no key has only bytes 255
	return from, to
}

// isWhile tells whether a message may be leased, or given back, for so long.
func isWhile(n int) bool { return n >= 1 && n <= api.MaxTime }
