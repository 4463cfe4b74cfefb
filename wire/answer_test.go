package wire_test

import (
	"fmt"
	"math"
	"math/rand"
	"slices"
	"strings"
	"testing"

	"mailbag/api"
	"mailbag/octet"
	"mailbag/wire"
)

// answer is an answer, in short.
func answer(e api.Errno, n int, texts ...string) wire.Answer {
	return wire.Answer{E: e, N: n, Texts: texts}
}

// answerCases are answers and their bytes.
func answerCases() []struct {
	a    wire.Answer
	want string
} {
	long := strings.Repeat("x", 70000)
	return []struct {
		a    wire.Answer
		want string
	}{
		{answer(api.OK, 0), "\x00\x00\x00"},
		{answer(api.OK, 0, ""), "\x00\x00\x01\x01\x00"},
		{answer(api.ErrTurn, 5, "a", ""), "\x01\x09\x01\x05\x01\x02\x01\x01a\x00"},
		{answer(api.OK, 300, "", "", ""), "\x00\x02\x01\x2c\x01\x03\x00\x00\x00"},
		{answer(api.OK, 1, "\x00\xff", "ab"), "\x00\x01\x01\x01\x02\x01\x02\x00\xff\x01\x02ab"},
		{answer(api.ErrBad, 0), "\x01\x0e\x00\x00"},
		{answer(1000, api.MaxSeq), "\x02\x03\xe8\x06\x01\x00\x00\x00\x00\x00\x00"},
		{answer(256, 0, long, "b"), "\x02\x01\x00\x00\x01\x02\x03\x01\x11\x70" + long + "\x01\x01b"},
		{answer(api.OK, 0, make([]string, 70000)...), "\x00\x00\x03\x01\x11\x70" + noughts(70000)},
	}
}

// noughts is so many bytes 0.
func noughts(n int) string { return strings.Repeat("\x00", n) }

// layAnswer lays an answer that may be wrong, word by word as the promise says it.
func layAnswer(a wire.Answer) string {
	b := octet.Num(octet.Num(nil, int(a.E)), a.N)
	b = octet.Num(b, len(a.Texts))
	for i := range len(a.Texts) {
		b = octet.Text(b, a.Texts[i])
	}
	return string(b)
}

// equal tells whether two answers are the same, besides Same.
func equal(a, b wire.Answer) bool {
	return a.E == b.E && a.N == b.N && slices.Equal(a.Texts, b.Texts)
}

// short is how an answer is told: of long texts how long they are.
func short(a wire.Answer) string {
	s := fmt.Sprintf("E %d, N %d, %d texts:", a.E, a.N, len(a.Texts))
	for _, text := range a.Texts[:min(len(a.Texts), 9)] {
		s += fmt.Sprintf(" %d %q", len(text), text[:min(len(text), 20)])
	}
	return s
}

// wantAnswer holds bytes to be those of an answer.
func wantAnswer(t *testing.T, what, s string, a wire.Answer) {
	t.Helper()
	if got, e := wire.ReadAnswer(s); e != api.OK || !equal(got, a) {
		t.Errorf("%s: %s, %d", what, short(got), e)
	}
}

// wantNoAnswer holds ReadAnswer to ErrForm, and nothing beside it.
func wantNoAnswer(t *testing.T, what, s string) {
	t.Helper()
	if a, e := wire.ReadAnswer(s); e != api.ErrForm || !equal(a, wire.Answer{}) {
		t.Errorf("%s: %s, %d", what, short(a), e)
	}
}

// P18.2
func TestFail(t *testing.T) {
	for _, e := range []api.Errno{api.OK, api.ErrArg, api.ErrForm, api.ErrTurn, api.ErrBad, 15, 1000, 1001, -1, math.MinInt, math.MaxInt} {
		if a := wire.Fail(e); !equal(a, answer(e, 0)) {
			t.Error(int(e), short(a))
		}
	}
}

// P18.2: nil and empty texts are one; else each answer of these is the same as itself alone.
func TestSame(t *testing.T) {
	all := []wire.Answer{
		answer(0, 0), answer(1, 0), answer(-1, 0), answer(0, 1), answer(0, -1), answer(1, 1), answer(2, 1), answer(1, 2),
		answer(0, 0, ""), answer(0, 0, "", ""), answer(0, 0, "a"), answer(0, 0, "b"), answer(0, 0, "A"), answer(0, 0, "a", ""), answer(0, 0, "", "a"),
		answer(0, 0, "a", "b"), answer(0, 0, "b", "a"), answer(0, 0, "ab"), answer(0, 0, "a", "b", "c"), answer(1, 0, "a"), answer(0, 1, "a"),
		answer(0, 0, "\xff"), answer(0, 0, "\xfe"), answer(0, 0, "\xef\xbf\xbd"), answer(0, 0, "a\x00"),
		answer(math.MaxInt, math.MinInt, "a"), answer(math.MinInt, math.MaxInt, "a"),
	}
	for i, a := range all {
		for j, o := range all {
			o.Texts = append([]string{}, o.Texts...)
			if a.Same(o) != (i == j) || o.Same(a) != (i == j) {
				t.Errorf("%d and %d: %t", i, j, a.Same(o))
			}
		}
	}
	if none := (wire.Answer{Texts: []string{}}); !none.Same(wire.Answer{}) || !(wire.Answer{}).Same(none) {
		t.Error("empty and nil")
	}
}

// P18.2
func TestAnswer(t *testing.T) {
	for i, c := range answerCases() {
		if s := c.a.Encode(); s != c.want {
			t.Errorf("%d: %d bytes, %x", i, len(s), s[:min(len(s), 20)])
		}
		wantAnswer(t, fmt.Sprint(i), c.want, c.a)
		if got, _ := wire.ReadAnswer(c.want); !got.Same(c.a) {
			t.Error(i, short(got))
		}
	}
	if s := (wire.Answer{Texts: []string{}}).Encode(); s != "\x00\x00\x00" {
		t.Errorf("empty texts: %x", s)
	}
}

// P18.2: E and N below 0 are as 0.
func TestAnswerBelowNought(t *testing.T) {
	for _, n := range []int{-1, -256, math.MinInt} {
		for _, c := range []struct {
			a    wire.Answer
			want string
		}{
			{answer(api.Errno(n), 5, "a"), "\x00\x01\x05\x01\x01\x01\x01a"},
			{answer(api.ErrNone, n, "a"), "\x01\x05\x00\x01\x01\x01\x01a"},
			{answer(api.Errno(n), n), "\x00\x00\x00"},
		} {
			if s := c.a.Encode(); s != c.want {
				t.Errorf("%s: %x", short(c.a), s)
			}
		}
	}
}

// P18.2: of any E and N there are bytes, but they are read up to 1000 and MaxSeq alone.
func TestAnswerBounds(t *testing.T) {
	for _, e := range []api.Errno{1001, 1 << 16, math.MaxInt} {
		for _, a := range []wire.Answer{wire.Fail(e), answer(e, 1, "a")} {
			s := a.Encode()
			if s != layAnswer(a) {
				t.Errorf("%s: %x", short(a), s)
			}
			wantNoAnswer(t, short(a), s)
		}
	}
	for _, n := range []int{api.MaxSeq + 1, math.MaxInt} {
		for _, a := range []wire.Answer{answer(0, n), answer(1, n, "a")} {
			s := a.Encode()
			if s != layAnswer(a) {
				t.Errorf("%s: %x", short(a), s)
			}
			wantNoAnswer(t, short(a), s)
		}
	}
	for e := range api.Errno(1001) {
		wantAnswer(t, fmt.Sprint("E ", int(e)), wire.Fail(e).Encode(), wire.Fail(e))
	}
}

// P18.2: bytes that are no answer's.
func TestReadAnswerWrong(t *testing.T) {
	for what, s := range map[string]string{
		"nothing":               "",
		"E alone":               "\x00",
		"E and N alone":         "\x00\x00",
		"E in long form":        "\x01\x00\x00\x00",
		"N in long form":        "\x00\x02\x00\x05\x00",
		"a count in long form":  "\x00\x00\x01\x00",
		"a text in long form":   "\x00\x00\x01\x01\x01\x00",
		"a, in long form":       "\x00\x00\x01\x01\x02\x00\x01a",
		"E of nine bytes":       "\x09\x01\x00\x00\x00\x00\x00\x00\x00\x00\x00\x00",
		"E below 0":             "\x08\xff\xff\xff\xff\xff\xff\xff\xff\x00\x00",
		"N below 0":             "\x00\x08\xff\xff\xff\xff\xff\xff\xff\xff\x00",
		"fewer than it says":    "\x00\x00\x01\x02\x01\x01a",
		"none, but one said":    "\x00\x00\x01\x01",
		"more than it says":     "\x00\x00\x01\x01\x01\x01a\x00",
		"one, but none said":    "\x00\x00\x00\x01\x01a",
		"very many":             "\x00\x00\x08\x7f\xff\xff\xff\xff\xff\xff\xff" + noughts(1000),
		"too many":              "\x00\x00\x08\x80\x00\x00\x00\x00\x00\x00\x00" + noughts(1000),
		"very many of no bytes": "\x00\x00\x06\x01\x00\x00\x00\x00\x00",
		"a very long text":      "\x00\x00\x01\x01\x08\x7f\xff\xff\xff\xff\xff\xff\xffabc",
		"a too long text":       "\x00\x00\x01\x01\x08\xff\xff\xff\xff\xff\xff\xff\xffabc",
		"a text of too few":     "\x00\x00\x01\x01\x01\x04abc",
		"a byte behind it":      "\x00\x00\x00\x00",
		"an answer behind it":   "\x00\x00\x00\x00\x00\x00",
		"a text behind a fault": "\x00\x00\x01\x02\x01\x00\x00",
	} {
		wantNoAnswer(t, what, s)
	}
}

// wantAnswerOf holds bytes to be none of an answer, or to be just that answer's.
func wantAnswerOf(t *testing.T, what, s string) bool {
	t.Helper()
	a, e := wire.ReadAnswer(s)
	if e != api.OK {
		wantNoAnswer(t, what, s)
		return false
	}
	if a.E < 0 || a.E > 1000 || a.N < 0 || a.N > api.MaxSeq || a.Encode() != s {
		t.Errorf("%s: %x is %s, and that is %x", what, s, short(a), a.Encode())
	}
	return true
}

// P18.2: cut off at each place, and with each byte turned: no answer, or another one, of which these are the bytes.
func TestReadAnswerTurned(t *testing.T) {
	for _, a := range []wire.Answer{answer(0, 0), answer(api.ErrTurn, 5, "a", ""), answer(999, api.MaxSeq, "ab", "", "cde", strings.Repeat("x", 300))} {
		s := a.Encode()
		for i := range len(s) {
			wantNoAnswer(t, fmt.Sprint("cut at ", i), s[:i])
			for v := range 256 {
				wantAnswerOf(t, fmt.Sprint("turned at ", i), s[:i]+string([]byte{byte(v)})+s[i+1:])
				wantAnswerOf(t, fmt.Sprint("more at ", i), s[:i]+string([]byte{byte(v)})+s[i:])
			}
		}
	}
}

// P18.2: whatever is answered is its own bytes, and is read back.
func TestAnyAnswer(t *testing.T) {
	r := rand.New(rand.NewSource(3))
	for range 2000 {
		a := answer(api.Errno(r.Intn(1001)), anyNumber(r))
		for range r.Intn(6) {
			a.Texts = append(a.Texts, anyText(r))
		}
		s := a.Encode()
		if s != layAnswer(a) {
			t.Fatalf("%s: %x", short(a), s)
		}
		wantAnswer(t, "any answer", s, a)
	}
}

// P18.2 and rule 1: any bytes end, and what they are is what they are the bytes of.
func TestReadAnyAnswer(t *testing.T) {
	r := rand.New(rand.NewSource(4))
	read := 0
	for range 300000 {
		if wantAnswerOf(t, "any bytes", anyBytes(r)) {
			read++
		}
	}
	if read < 1000 {
		t.Error("no more answers among these than", read)
	}
}

// Rule 4: what is handed in isn't turned, and no two answers share a list.
func TestAnswersApart(t *testing.T) {
	texts := make([]string, 2, 8)
	texts[0], texts[1] = "a", "b"
	a := wire.Answer{N: 1, Texts: texts}
	s := a.Encode()
	a.Same(answer(0, 1, "a", "c"))
	if full := texts[:8]; !slices.Equal(full, []string{"a", "b", "", "", "", "", "", ""}) {
		t.Errorf("%q", full)
	}
	one, _ := wire.ReadAnswer(s)
	other, _ := wire.ReadAnswer(s)
	one.Texts[0] = "turned"
	one.Texts = append(one.Texts[:1], "more", "and more")
	texts[1] = "turned"
	if !other.Same(answer(0, 1, "a", "b")) || s != answer(0, 1, "a", "b").Encode() {
		t.Error(short(other))
	}
}
