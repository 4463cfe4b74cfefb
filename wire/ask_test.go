package wire_test

import (
	"fmt"
	"math"
	"math/rand"
	"strings"
	"testing"

	"mailbag/api"
	"mailbag/octet"
	"mailbag/wire"
)

// ops are all that may be asked, by their numbers: the first is 1.
var ops = []wire.Op{
	wire.Begin, wire.Commit, wire.Abort, wire.MakeColl, wire.Put, wire.Patch, wire.Delete, wire.Get, wire.Scan, wire.Query,
	wire.MakeQueue, wire.Send, wire.Take, wire.Ack, wire.Nack, wire.Extend, wire.Watch, wire.Poll, wire.Unwatch,
}

// longest is a text of as many bytes as there may be.
var longest = strings.Repeat("v", api.MaxVal)

// askCases are questions and their bytes.
var askCases = []struct {
	a    wire.Ask
	want string
}{
	{wire.Ask{Op: wire.Begin}, "\x01\x01\x00\x00\x00\x00\x00\x00"}, // the chapter's example
	{wire.Ask{Op: wire.Unwatch, N: 1}, "\x01\x13\x00\x00\x00\x00\x01\x01\x00"},
	{wire.Ask{Op: wire.Query, A: "c", B: "i", C: "\x00", D: "\x01", N: 300, M: 1}, "\x01\x0a\x01\x01c\x01\x01i\x01\x01\x00\x01\x01\x01\x02\x01\x2c\x01\x01"},
	{wire.Ask{Op: wire.Put, A: "a"}, "\x01\x05\x01\x01a\x00\x00\x00\x00\x00"},
	{wire.Ask{Op: wire.Put, B: "b"}, "\x01\x05\x00\x01\x01b\x00\x00\x00\x00"},
	{wire.Ask{Op: wire.Put, C: "c"}, "\x01\x05\x00\x00\x01\x01c\x00\x00\x00"},
	{wire.Ask{Op: wire.Put, D: "d"}, "\x01\x05\x00\x00\x00\x01\x01d\x00\x00"},
	{wire.Ask{Op: wire.Put, N: 7}, "\x01\x05\x00\x00\x00\x00\x01\x07\x00"},
	{wire.Ask{Op: wire.Put, M: 7}, "\x01\x05\x00\x00\x00\x00\x00\x01\x07"},
	{wire.Ask{Op: wire.Get, A: "\xff\x80", B: "ä"}, "\x01\x08\x01\x02\xff\x80\x01\x02\xc3\xa4\x00\x00\x00\x00"},
	{wire.Ask{Op: wire.Poll, A: longest, N: api.MaxSeq}, "\x01\x12\x02\x10\x00" + longest + "\x00\x00\x00\x06\x01\x00\x00\x00\x00\x00\x00"},
	{
		wire.Ask{Op: wire.Extend, A: longest, B: longest, C: longest, D: longest, N: api.MaxSeq, M: api.MaxSeq},
		"\x01\x10" + strings.Repeat("\x02\x10\x00"+longest, 4) + strings.Repeat("\x06\x01\x00\x00\x00\x00\x00", 2),
	},
}

// wrongAsks are questions that aren't Right.
func wrongAsks() map[string]wire.Ask {
	wrong := map[string]wire.Ask{
		"nothing": {},
		"A":       {Op: wire.Put, A: longest + "v"},
		"B":       {Op: wire.Put, B: longest + "v"},
		"C":       {Op: wire.Put, C: longest + "v"},
		"D":       {Op: wire.Put, D: longest + "v"},
		"texts":   {Op: wire.Put, A: longest + longest, D: longest + longest},
	}
	for _, op := range []wire.Op{math.MinInt, -1, 0, 20, 255, 256, 257, math.MaxInt} {
		wrong[fmt.Sprint("Op ", int(op))] = wire.Ask{Op: op, A: "a", N: 1}
	}
	for _, n := range []int{math.MinInt, -1, api.MaxSeq + 1, math.MaxInt} {
		wrong[fmt.Sprint("N ", n)] = wire.Ask{Op: wire.Put, N: n}
		wrong[fmt.Sprint("M ", n)] = wire.Ask{Op: wire.Put, M: n}
	}
	return wrong
}

// layAsk lays a question that may be wrong, word by word as the promise says it.
func layAsk(a wire.Ask) string {
	b := octet.Num(nil, int(a.Op))
	b = octet.Text(b, a.A)
	b = octet.Text(b, a.B)
	b = octet.Text(b, a.C)
	b = octet.Text(b, a.D)
	b = octet.Num(b, a.N)
	b = octet.Num(b, a.M)
	return string(b)
}

// wantAsk holds bytes to be those of a question.
func wantAsk(t *testing.T, what, s string, a wire.Ask) {
	t.Helper()
	if got, e := wire.ReadAsk(s); e != api.OK || got != a {
		t.Errorf("%s: %v, %d", what, got, e)
	}
}

// wantNoAsk holds ReadAsk to an error, and nothing beside it.
func wantNoAsk(t *testing.T, what, s string, e api.Errno) {
	t.Helper()
	if a, got := wire.ReadAsk(s); got != e || a != (wire.Ask{}) {
		t.Errorf("%s: %v, %d, not %d", what, a, got, e)
	}
}

// P18.1: the ops are numbered in order, from 1 on.
func TestOps(t *testing.T) {
	if len(ops) != 19 {
		t.Error(len(ops))
	}
	for i, op := range ops {
		a := wire.Ask{Op: op}
		want := "\x01" + string([]byte{byte(i + 1)}) + "\x00\x00\x00\x00\x00\x00"
		if s, e := a.Encode(); int(op) != i+1 || !a.Right() || e != api.OK || s != want {
			t.Errorf("%d: %d, %x, %d", i+1, int(op), s, e)
		}
		wantAsk(t, fmt.Sprint("Op ", i+1), want, a)
	}
}

// P18.1
func TestAsk(t *testing.T) {
	for i, c := range askCases {
		if !c.a.Right() {
			t.Errorf("%d isn't Right", i)
		}
		if s, e := c.a.Encode(); e != api.OK || s != c.want {
			t.Errorf("%d: %x, %d, not %x", i, s, e, c.want)
		}
		wantAsk(t, fmt.Sprint(i), c.want, c.a)
	}
}

// P18.1: ErrArg, if it isn't Right.
func TestAskWrong(t *testing.T) {
	for what, a := range wrongAsks() {
		if a.Right() {
			t.Errorf("%s is Right", what)
		}
		if s, e := a.Encode(); e != api.ErrArg || s != "" {
			t.Errorf("%s: %x, %d", what, s, e)
		}
	}
}

// P18.1: bytes in the form of a question that has none.
func TestReadAskWrong(t *testing.T) {
	for what, a := range wrongAsks() {
		if a.Op >= 0 && a.N >= 0 && a.M >= 0 { // of others octet lays another one
			wantNoAsk(t, what, layAsk(a), api.ErrForm)
		}
	}
	for what, s := range map[string]string{
		"nothing":               "",
		"no Op":                 "\x00\x00\x00\x00\x00\x00\x00",
		"an Op in long form":    "\x02\x00\x01\x00\x00\x00\x00\x00\x00",
		"Op 0 in long form":     "\x01\x00\x00\x00\x00\x00\x00\x00",
		"a text in long form":   "\x01\x01\x01\x00\x00\x00\x00\x00\x00",
		"a, in long form":       "\x01\x01\x02\x00\x01a\x00\x00\x00\x00\x00",
		"a number in long form": "\x01\x01\x00\x00\x00\x00\x01\x00\x00",
		"the last in long form": "\x01\x01\x00\x00\x00\x00\x00\x02\x00\x07",
		"a number of nine":      "\x01\x01\x00\x00\x00\x00\x00\x09\x01\x00\x00\x00\x00\x00\x00\x00\x00",
		"a number below 0":      "\x01\x01\x00\x00\x00\x00\x00\x08\xff\xff\xff\xff\xff\xff\xff\xff",
		"a very long text":      "\x01\x01\x08\x7f\xff\xff\xff\xff\xff\xff\xff\x00\x00\x00\x00\x00",
		"a byte behind it":      "\x01\x01\x00\x00\x00\x00\x00\x00\x00",
		"a question behind it":  "\x01\x01\x00\x00\x00\x00\x00\x00\x01\x01\x00\x00\x00\x00\x00\x00",
		"a byte ahead of it":    "\x00\x01\x01\x00\x00\x00\x00\x00\x00",
		"five texts":            "\x01\x01\x00\x00\x00\x00\x01\x01a\x00\x00",
		"three texts":           "\x01\x01\x00\x00\x00\x01\x01",
	} {
		wantNoAsk(t, what, s, api.ErrForm)
	}
}

// P18.1: ErrLong above MaxAsk bytes, whatever they are, and no question has so many.
func TestReadAskLong(t *testing.T) {
	if wire.MaxAsk != 20000 {
		t.Error(wire.MaxAsk)
	}
	most := askCases[len(askCases)-1].want
	if len(most) != 16412 {
		t.Error(len(most))
	}
	for _, s := range []string{"", "\x01\x01", askCases[0].want, most, strings.Repeat("\xff", wire.MaxAsk)} {
		full := s + strings.Repeat("\x00", wire.MaxAsk-len(s))
		wantNoAsk(t, "MaxAsk bytes", full, api.ErrForm)
		wantNoAsk(t, "one more", full+"\x00", api.ErrLong)
		wantNoAsk(t, "many more", full+full, api.ErrLong)
	}
	long := layAsk(wire.Ask{Op: wire.Put, A: strings.Repeat("a", wire.MaxAsk)})
	wantNoAsk(t, "too long a text", long, api.ErrLong)
	wantNoAsk(t, "too long a text, cut", long[:wire.MaxAsk], api.ErrForm)
}

// wantAskOf holds bytes to be none of a question, or to be just that question's.
func wantAskOf(t *testing.T, what, s string) bool {
	t.Helper()
	a, e := wire.ReadAsk(s)
	if e != api.OK {
		wantNoAsk(t, what, s, api.ErrForm)
		return false
	}
	if back, e := a.Encode(); e != api.OK || back != s {
		t.Errorf("%s: %x is %v, and that is %x, %d", what, s, a, back, e)
	}
	return true
}

// P18.1: cut off at each place, and with each byte turned: no question, or another one, of which these are the bytes.
func TestReadAskTurned(t *testing.T) {
	for _, s := range []string{askCases[0].want, askCases[2].want, layAsk(wire.Ask{Op: wire.Send, A: "mail", B: "hello", N: api.MaxSeq, M: 256})} {
		for i := range len(s) {
			wantNoAsk(t, fmt.Sprint("cut at ", i), s[:i], api.ErrForm)
			for v := range 256 {
				wantAskOf(t, fmt.Sprint("turned at ", i), s[:i]+string([]byte{byte(v)})+s[i+1:])
				wantAskOf(t, fmt.Sprint("more at ", i), s[:i]+string([]byte{byte(v)})+s[i:])
			}
		}
	}
	most := askCases[len(askCases)-1].want
	for i := range len(most) {
		wantNoAsk(t, fmt.Sprint("cut at ", i), most[:i], api.ErrForm)
	}
}

// anyText is a text of any bytes, often of none, at times of so many as there may be.
func anyText(r *rand.Rand) string {
	n := []int{0, 0, 1, 3, 255, 256, api.MaxVal - 1, api.MaxVal}[r.Intn(8)]
	b := make([]byte, n)
	for i := range b {
		b[i] = byte(r.Intn(256))
	}
	return string(b)
}

// anyNumber is a number from 0 to MaxSeq, of any size.
func anyNumber(r *rand.Rand) int {
	return []int{0, 1, api.MaxSeq, r.Intn(256), r.Intn(1 << 16), r.Intn(api.MaxSeq + 1)}[r.Intn(6)]
}

// P18.1: whatever is asked is its own bytes, and is read back.
func TestAnyAsk(t *testing.T) {
	r := rand.New(rand.NewSource(1))
	for range 3000 {
		a := wire.Ask{Op: ops[r.Intn(len(ops))], A: anyText(r), B: anyText(r), C: anyText(r), D: anyText(r), N: anyNumber(r), M: anyNumber(r)}
		s, e := a.Encode()
		if !a.Right() || e != api.OK || s != layAsk(a) {
			t.Fatalf("%v: %x, %d", a, s, e)
		}
		wantAsk(t, "any question", s, a)
	}
}

// anyBytes is a few bytes, most of them 0 or 1, so that some are what is read.
func anyBytes(r *rand.Rand) string {
	b := make([]byte, r.Intn(16))
	for i := range b {
		if b[i] = byte(r.Intn(6) / 4); r.Intn(12) == 0 {
			b[i] = byte(r.Intn(256))
		}
	}
	return string(b)
}

// P18.1 and rule 1: any bytes end, and what they are is what they are the bytes of.
func TestReadAnyAsk(t *testing.T) {
	r := rand.New(rand.NewSource(2))
	read := 0
	for range 300000 {
		if wantAskOf(t, "any bytes", anyBytes(r)) {
			read++
		}
	}
	if read < 100 {
		t.Error("no more questions among these than", read)
	}
}
