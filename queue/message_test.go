package queue_test

import (
	"fmt"
	"strings"
	"testing"

	"mailbag/api"
	"mailbag/octet"
	"mailbag/ord"
	"mailbag/queue"
)

// messages are messages of all kinds.
func messages() []queue.Message {
	return []queue.Message{
		{},
		{ID: "a", Body: "body", Ready: 300, Count: 2, Token: "tok"},
		{ID: "\x00", Body: "\x00\xff", Ready: 1, Count: 1, Token: "\x00"},
		{ID: long(1000), Body: long(2000), Ready: 2 * api.MaxTime, Count: 1000, Token: long(400)},
		{Body: long(255)},
		{Body: long(256), Token: long(255)},
		{Ready: api.MaxTime, Token: long(256)},
	}
}

// bytesOf is what is kept of a message.
func bytesOf(m queue.Message) string {
	b := octet.Num(octet.Num(nil, m.Ready), m.Count)
	return string(octet.Text(octet.Text(b, m.Token), m.Body))
}

// wantBad holds Decode to tell ErrBad, and nothing else.
func wantBad(t *testing.T, what, s string) {
	t.Helper()
	for _, id := range []string{"", "a"} {
		if m, e := queue.Decode(id, s); e != api.ErrBad || m != (queue.Message{}) {
			t.Errorf("%s: %v, %d", what, m, e)
		}
	}
}

// P15.2
func TestPlace(t *testing.T) {
	wantText(t, "Place", queue.Place("a", "b\x00"), "m\x00\x01a\x00\x01b\x00\xff\x00\x01")
	wantText(t, "Place of none", queue.Place("", ""), "m\x00\x01\x00\x01\x00\x01")
	for _, name := range []string{"", "q", "\x00", "\xff", long(1000)} {
		for _, id := range []string{"", "a", "\x00", "\xff", long(1000)} {
			wantText(t, "Place", queue.Place(name, id), ord.Key("m", name, id))
		}
	}
}

// P15.2: the bytes, and the messages of which these are.
func TestEncode(t *testing.T) {
	wantText(t, "Encode", messages()[1].Encode(), "\x02\x01\x2c\x01\x02\x01\x03tok\x01\x04body")
	wantText(t, "Encode of none", queue.Message{ID: "a"}.Encode(), "\x00\x00\x00\x00")
	for i, m := range messages() {
		wantText(t, fmt.Sprint(i), m.Encode(), bytesOf(m))
		if got, e := queue.Decode(m.ID, bytesOf(m)); e != api.OK || got != m {
			t.Errorf("%d: %v, %d", i, got, e)
		}
		other := m
		other.ID = "other"
		wantText(t, fmt.Sprint(i), other.Encode(), bytesOf(m))
		if got, e := queue.Decode("other", bytesOf(m)); e != api.OK || got != other {
			t.Errorf("%d: %v, %d", i, got, e)
		}
	}
	wantText(t, "Encode of what is below 0", queue.Message{Ready: -1, Count: -7}.Encode(), "\x00\x00\x00\x00")
}

// P15.2: bytes that are no message's.
func TestDecodeOfOthers(t *testing.T) {
	for what, m := range map[string]queue.Message{
		"Ready":      {Ready: 2*api.MaxTime + 1},
		"Count":      {Count: 1001},
		"Token":      {Token: long(401)},
		"Body":       {Body: long(2001)},
		"a far body": {Body: long(1 << 20)},
	} {
		wantBad(t, what, bytesOf(m))
		wantBad(t, what+" by Encode", m.Encode())
	}
	for what, s := range map[string]string{
		"nothing":            "",
		"0 as a byte":        "\x01\x00\x00\x00\x00",
		"1 as two bytes":     "\x02\x00\x01\x00\x00\x00",
		"more than there is": "\x00\x00\x00\x01\x02a",
		"the most":           "\x08" + strings.Repeat("\xff", 8) + "\x00\x00\x00",
		"above all":          "\x09\x01" + strings.Repeat("\x00", 11),
		"a queue":            "\x01\x02\x01\x01d",
	} {
		wantBad(t, what, s)
	}
}

// P15.2: bytes cut off, with more behind them, or with one of them turned, are other bytes.
func TestDecodeIsStrict(t *testing.T) {
	for i, m := range messages() {
		s := m.Encode()
		for n := range len(s) {
			wantBad(t, fmt.Sprint(i, " cut off at ", n), s[:n])
		}
		for _, more := range []string{"\x00", "\x01", "\xff", s} {
			wantBad(t, fmt.Sprint(i, " and more"), s+more)
		}
		for at := range min(len(s), 60) {
			for turn := 1; turn < 256; turn++ {
				b := []byte(s)
				b[at] ^= byte(turn)
				got, e := queue.Decode(m.ID, string(b))
				if e == api.OK && (bytesOf(got) != string(b) || got.ID != m.ID) || e != api.OK && (e != api.ErrBad || got != queue.Message{}) {
					t.Errorf("%d turned at %d: %v, %d", i, at, got, e)
				}
			}
		}
	}
}
