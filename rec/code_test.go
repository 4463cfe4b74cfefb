package rec_test

import (
	"fmt"
	"math"
	"math/rand"
	"strings"
	"testing"

	"mailbag/api"
	"mailbag/octet"
	"mailbag/rec"
)

// coded are commits and their bytes.
func coded() []struct {
	c    api.Commit
	want string
} {
	key, val := strings.Repeat("k", api.MaxKey), strings.Repeat("v", api.MaxVal)
	return []struct {
		c    api.Commit
		want string
	}{
		{commit(1, 0, put("a", "x")), "\x01\x01\x00\x01\x01\x01\x01a\x00\x01\x01x"}, // the chapter's example
		{commit(1, 0), "\x01\x01\x00\x00"},
		{commit(300, 5, put("a", "x"), gone("b")), "\x02\x01\x2c\x01\x05\x01\x02\x01\x01a\x00\x01\x01x\x01\x01b\x01\x00"},
		{commit(2, 256, put("\x00", "")), "\x01\x02\x02\x01\x00\x01\x01\x01\x01\x00\x00\x00"},
		{commit(api.MaxSeq, api.MaxTime), "\x06\x01\x00\x00\x00\x00\x00\x06\x01\x00\x00\x00\x00\x00\x00"},
		{commit(7, 1, put(key, val)), "\x01\x07\x01\x01\x01\x01\x02\x01\x90" + key + "\x00\x02\x10\x00" + val},
	}
}

// same tells whether two commits are the same; nil and empty are one.
func same(a, b api.Commit) bool { return fmt.Sprint(a) == fmt.Sprint(b) }

// wantNoCommit holds ReadCommit to ErrForm, and nothing beside it.
func wantNoCommit(t *testing.T, what, s string) {
	t.Helper()
	if c, e := rec.ReadCommit(s); e != api.ErrForm || c.Seq != 0 || c.At != 0 || len(c.Writes) != 0 {
		t.Errorf("%s: %v, %d", what, c, e)
	}
}

// wantNoState holds Decode to ErrForm, and nothing beside it.
func wantNoState(t *testing.T, what, b string) {
	t.Helper()
	if s, e := rec.Decode(b); e != api.ErrForm || s.Seq != 0 || len(s.Base) != 0 || len(s.Commits) != 0 {
		t.Errorf("%s: %v, %d", what, s, e)
	}
}

// P11.1
func TestCommit(t *testing.T) {
	for i, c := range coded() {
		got, e := rec.Commit(c.c)
		if e != api.OK || got != c.want {
			t.Errorf("%d: %x, %d, not %x", i, got, e, c.want)
		}
		if back, e := rec.ReadCommit(c.want); e != api.OK || !same(back, c.c) {
			t.Errorf("%d: %v, %d", i, back, e)
		}
	}
	most := commit(9, 9, puts(api.MaxWrites)...)
	s, e := rec.Commit(most)
	if back, be := rec.ReadCommit(s); e != api.OK || be != api.OK || !same(back, most) || !strings.HasPrefix(s, "\x01\x09\x01\x09\x01\xc8") {
		t.Error(e, be, back)
	}
}

// P11.1
func TestCommitWrong(t *testing.T) {
	for what, c := range wrongCommits() {
		if s, e := rec.Commit(c); e != api.ErrArg || s != "" {
			t.Errorf("%s: %x, %d", what, s, e)
		}
	}
}

// layWrong lays a commit that may be wrong.
func layWrong(b []byte, c api.Commit) []byte {
	return layAll(octet.Num(octet.Num(b, c.Seq), c.At), c.Writes)
}

// layAll lays writes that may be wrong.
func layAll(b []byte, list []api.Write) []byte {
	b = octet.Num(b, len(list))
	for _, w := range list {
		b = octet.Text(octet.Flag(octet.Text(b, w.Key), w.Gone), w.Val)
	}
	return b
}

// P11.1: bytes in the form of a commit that has none.
func TestReadCommitWrong(t *testing.T) {
	for what, c := range wrongCommits() {
		if c.Seq >= 0 && c.At >= 0 { // of others octet lays another one
			wantNoCommit(t, what, string(layWrong(nil, c)))
		}
	}
	for what, s := range map[string]string{
		"nothing":                "",
		"a number in long form":  "\x02\x00\x01\x00\x00",
		"a time in long form":    "\x01\x01\x01\x00\x00",
		"a count in long form":   "\x01\x01\x00\x01\x00",
		"a text in long form":    "\x01\x01\x00\x01\x01\x02\x00\x01a\x00\x01\x01x",
		"a flag of 2":            "\x01\x01\x00\x01\x01\x01\x01a\x02\x01\x01x",
		"fewer than it says":     "\x01\x01\x00\x01\x02\x01\x01a\x00\x01\x01x",
		"more than it says":      "\x01\x01\x00\x00\x01\x01a\x00\x01\x01x",
		"many more than it says": "\x01\x01\x00\x08\x7f\xff\xff\xff\xff\xff\xff\xff\x01\x01a\x00\x01\x01x",
		"201, and one":           "\x01\x01\x00\x01\xc9\x01\x01a\x00\x01\x01x",
		"bytes behind it":        "\x01\x01\x00\x01\x01\x01\x01a\x00\x01\x01x\x00",
		"a commit behind it":     "\x01\x01\x00\x00\x01\x02\x00\x00",
		"a number of nine bytes": "\x09\x01\x00\x00\x00\x00\x00\x00\x00\x00\x00\x00",
	} {
		wantNoCommit(t, what, s)
	}
}

// P11.1: cut off at each place, and with each byte turned: no commit, or another one, of which these are the bytes.
func TestReadCommitTurned(t *testing.T) {
	s, _ := rec.Commit(commit(300, 5, put("a", "xy"), gone("b"), put("c", "")))
	for i := range len(s) {
		wantNoCommit(t, fmt.Sprint("cut at ", i), s[:i])
		for v := range 256 {
			turned := s[:i] + string([]byte{byte(v)}) + s[i+1:]
			c, e := rec.ReadCommit(turned)
			if e != api.OK {
				wantNoCommit(t, fmt.Sprint("turned at ", i), turned)
			} else if back, be := rec.Commit(c); be != api.OK || back != turned {
				t.Errorf("%x is %v, and that is %x, %d", turned, c, back, be)
			}
		}
	}
}

// P11.3
func TestEncode(t *testing.T) {
	for _, c := range []struct {
		s    rec.State
		want string
	}{
		{rec.State{}, "\x00\x00\x00"},
		{rec.State{Seq: 300}, "\x02\x01\x2c\x00\x00"},
		{rec.State{Seq: 1, Base: []api.Write{put("a", "x"), put("b", "")}}, "\x01\x01\x01\x02\x01\x01a\x00\x01\x01x\x01\x01b\x00\x00\x00"},
		{rec.State{Commits: []api.Commit{commit(1, 0, put("a", "x"))}}, "\x00\x00\x01\x01" + "\x01\x01\x00\x01\x01\x01\x01a\x00\x01\x01x"},
		{
			rec.State{Seq: 2, Base: []api.Write{put("k", "v")}, Commits: []api.Commit{commit(3, 7, gone("k")), commit(4, 256)}},
			"\x01\x02\x01\x01\x01\x01k\x00\x01\x01v\x01\x02" + "\x01\x03\x01\x07\x01\x01\x01\x01k\x01\x00" + "\x01\x04\x02\x01\x00\x00",
		},
	} {
		got, e := c.s.Encode()
		if e != api.OK || got != c.want {
			t.Errorf("%v: %x, %d, not %x", c.s, got, e, c.want)
		}
	}
}

// P11.3: what is encoded is read back.
func TestDecode(t *testing.T) {
	for what, s := range rightStates() {
		b, e := s.Encode()
		if e != api.OK {
			t.Errorf("%s: %d", what, e)
		}
		got, e := rec.Decode(b)
		if e != api.OK || text(got) != text(s) {
			t.Errorf("%s: %v, %d", what, got, e)
		}
	}
}

// P11.3: a state of which there is no store has no bytes.
func TestEncodeWrong(t *testing.T) {
	for what, s := range wrongStates() {
		if b, e := s.Encode(); e != api.ErrArg || b != "" {
			t.Errorf("%s: %x, %d", what, b, e)
		}
	}
}

// stateOf lays a state that may be wrong.
func stateOf(s rec.State) string {
	b := octet.Num(layAll(octet.Num(nil, s.Seq), s.Base), len(s.Commits))
	for _, c := range s.Commits {
		b = layWrong(b, c)
	}
	return string(b)
}

// P11.3: bytes in the form of a state of which there is no store.
func TestDecodeWrong(t *testing.T) {
	for what, s := range wrongStates() {
		if s.Seq >= 0 && (len(s.Commits) == 0 || s.Commits[0].Seq >= 0 && s.Commits[0].At >= 0) { // of others octet lays another one
			wantNoState(t, what, stateOf(s))
		}
	}
	for what, b := range map[string]string{
		"nothing":                "",
		"a number in long form":  "\x01\x00\x00\x00",
		"a count in long form":   "\x00\x01\x00\x00",
		"a flag of 2":            "\x00\x01\x01\x01\x01a\x02\x01\x01x\x00",
		"fewer than it says":     "\x00\x01\x02\x01\x01a\x00\x01\x01x\x00",
		"fewer commits":          "\x00\x00\x01\x02\x01\x01\x00\x00",
		"more commits":           "\x00\x00\x01\x01\x01\x01\x00\x00\x01\x02\x00\x00",
		"bytes behind it":        "\x00\x00\x00\x00",
		"as texts":               "\x00\x00\x01\x01\x01\x04\x01\x01\x00\x00",
		"very many writes":       "\x00\x08\x7f\xff\xff\xff\xff\xff\xff\xff\x01\x01a\x00\x01\x01x\x00",
		"very many commits":      "\x00\x00\x06\x01\x00\x00\x00\x00\x00\x01\x01\x00\x00",
		"too many commits":       "\x00\x00\x08\x7f\xff\xff\xff\xff\xff\xff\xff\x01\x01\x00\x00",
		"a number of nine bytes": "\x00\x09\x01\x00\x00\x00\x00\x00\x00\x00\x00\x00",
	} {
		wantNoState(t, what, b)
	}
}

// P11.3: cut off at each place, and with each byte turned: no state, or another one, of which these are the bytes.
func TestDecodeTurned(t *testing.T) {
	b, _ := rightStates()["commits"].Encode()
	for i := range len(b) {
		wantNoState(t, fmt.Sprint("cut at ", i), b[:i])
		for v := range 256 {
			turned := b[:i] + string([]byte{byte(v)}) + b[i+1:]
			s, e := rec.Decode(turned)
			if e != api.OK {
				wantNoState(t, fmt.Sprint("turned at ", i), turned)
			} else if back, be := s.Encode(); be != api.OK || back != turned {
				t.Errorf("%x is %v, and that is %x, %d", turned, s, back, be)
			}
		}
	}
}

// P11.1, P11.3, rule 1: any bytes end, and what they are is what they are the bytes of.
func TestAnyBytes(t *testing.T) {
	r := rand.New(rand.NewSource(1))
	for range 200000 {
		b := make([]byte, r.Intn(24))
		for i := range b {
			if b[i] = byte(r.Intn(4)); r.Intn(12) == 0 {
				b[i] = byte(r.Intn(math.MaxUint8 + 1))
			}
		}
		if c, e := rec.ReadCommit(string(b)); e == api.OK {
			if back, be := rec.Commit(c); be != api.OK || back != string(b) {
				t.Errorf("%x is %v, and that is %x, %d", b, c, back, be)
			}
		} else {
			wantNoCommit(t, "any bytes", string(b))
		}
		if s, e := rec.Decode(string(b)); e == api.OK {
			if back, be := s.Encode(); be != api.OK || back != string(b) {
				t.Errorf("%x is %v, and that is %x, %d", b, s, back, be)
			}
		} else {
			wantNoState(t, "any bytes", string(b))
		}
	}
}
