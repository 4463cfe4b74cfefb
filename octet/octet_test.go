package octet_test

import (
	"math"
	"strings"
	"testing"

	"mailbag/api"
	"mailbag/octet"
)

// laid are numbers and their bytes: the first and the last number of each count of bytes among them.
var laid = []struct {
	n    int
	want string
}{
	{0, "\x00"},
	{1, "\x01\x01"},
	{127, "\x01\x7f"},
	{128, "\x01\x80"},
	{255, "\x01\xff"},
	{256, "\x02\x01\x00"},
	{300, "\x02\x01\x2c"},
	{1<<16 - 1, "\x02\xff\xff"},
	{1 << 16, "\x03\x01\x00\x00"},
	{1<<24 - 1, "\x03\xff\xff\xff"},
	{1 << 24, "\x04\x01\x00\x00\x00"},
	{1<<32 - 1, "\x04\xff\xff\xff\xff"},
	{1 << 32, "\x05\x01\x00\x00\x00\x00"},
	{1<<40 - 1, "\x05\xff\xff\xff\xff\xff"},
	{1 << 40, "\x06\x01\x00\x00\x00\x00\x00"},
	{0x010203040506, "\x06\x01\x02\x03\x04\x05\x06"},
	{1<<48 - 1, "\x06\xff\xff\xff\xff\xff\xff"},
	{1 << 48, "\x07\x01\x00\x00\x00\x00\x00\x00"},
	{1<<56 - 1, "\x07\xff\xff\xff\xff\xff\xff\xff"},
	{1 << 56, "\x08\x01\x00\x00\x00\x00\x00\x00\x00"},
	{math.MaxInt, "\x08\x7f\xff\xff\xff\xff\xff\xff\xff"},
}

// wantFailed holds a reader to what is promised behind an error, whatever is asked.
func wantFailed(t *testing.T, what string, r *octet.Reader) {
	t.Helper()
	for range 2 {
		if r.Left() != 0 || r.Err() != api.ErrForm || r.End() != api.ErrForm {
			t.Errorf("%s: left %d, Err %d, End %d", what, r.Left(), r.Err(), r.End())
		}
		if n := r.Num(math.MaxInt); n != 0 {
			t.Errorf("%s: number %d behind an error", what, n)
		}
		for _, s := range []string{r.Text(math.MaxInt), r.Raw(1), r.Raw(0), r.Raw(-1)} {
			if s != "" {
				t.Errorf("%s: text %q behind an error", what, s)
			}
		}
		if r.Flag() {
			t.Errorf("%s: true behind an error", what)
		}
	}
}

// wantGood holds a reader to have no error, and so many bytes left.
func wantGood(t *testing.T, what string, r *octet.Reader, left int) {
	t.Helper()
	end := api.OK
	if left > 0 {
		end = api.ErrForm
	}
	if r.Left() != left || r.Err() != api.OK || r.End() != end {
		t.Errorf("%s: left %d, Err %d, End %d", what, r.Left(), r.Err(), r.End())
	}
}

// P1.1
func TestLayNum(t *testing.T) {
	for _, c := range laid {
		if got := string(octet.Num(nil, c.n)); got != c.want {
			t.Errorf("Num of %d: %x", c.n, got)
		}
		if got := string(octet.Num([]byte("ab"), c.n)); got != "ab"+c.want {
			t.Errorf("Num of %d behind ab: %x", c.n, got)
		}
	}
	for _, n := range []int{-1, -5, -256, math.MinInt} {
		if got := string(octet.Num([]byte{9}, n)); got != "\x09\x00" {
			t.Errorf("Num of %d: %x", n, got)
		}
	}
}

// P1.1
func TestLayText(t *testing.T) {
	long := strings.Repeat("x", 256)
	for s, want := range map[string]string{
		"":         "\x00",
		"a":        "\x01\x01a",
		"\x00\xff": "\x01\x02\x00\xff",
		long[:255]: "\x01\xff" + long[:255],
		long:       "\x02\x01\x00" + long,
	} {
		if got := string(octet.Text(nil, s)); got != want {
			t.Errorf("Text of %q: %x", s, got)
		}
		if got := string(octet.Text([]byte("ab"), s)); got != "ab"+want {
			t.Errorf("Text of %q behind ab: %x", s, got)
		}
	}
}

// P1.1
func TestLayFlag(t *testing.T) {
	if got := string(octet.Flag(octet.Flag(nil, true), false)); got != "\x01\x00" {
		t.Errorf("Flags true, false: %x", got)
	}
	if got := string(octet.Flag([]byte("ab"), true)); got != "ab\x01" {
		t.Errorf("Flag behind ab: %x", got)
	}
}

// P1.1: what is laid leaves the bytes ahead of it as they were.
func TestLayBehind(t *testing.T) {
	b := make([]byte, 2, 100)
	b[0], b[1] = 'a', 'b'
	octet.Num(b, 300)
	octet.Text(b, "cd")
	octet.Flag(b, true)
	if string(b) != "ab" {
		t.Errorf("bytes ahead: %q", b)
	}
}

// P1.2
func TestReadNum(t *testing.T) {
	for _, c := range laid {
		for _, most := range []int{c.n, math.MaxInt} {
			r := octet.Read(c.want + "ab")
			if got := r.Num(most); got != c.n {
				t.Errorf("%x up to %d: %d", c.want, most, got)
			}
			wantGood(t, "number", r, 2)
		}
	}
}

// P1.2
func TestReadNumAboveMost(t *testing.T) {
	for _, c := range laid[1:] {
		for _, most := range []int{c.n - 1, 0, -1, math.MinInt} {
			r := octet.Read(c.want + "ab")
			if got := r.Num(most); got != 0 {
				t.Errorf("%x up to %d: %d", c.want, most, got)
			}
			wantFailed(t, "above most", r)
		}
	}
}

// P1.2: most below 0 counts as 0.
func TestReadNumMostBelowNought(t *testing.T) {
	for _, most := range []int{0, -1, math.MinInt} {
		r := octet.Read("\x00\x01\x01")
		if got := r.Num(most); got != 0 {
			t.Errorf("0 up to %d: %d", most, got)
		}
		wantGood(t, "0 up to none", r, 2)
	}
}

// P1.2
func TestReadNumOfAnotherForm(t *testing.T) {
	for _, s := range []string{
		"",
		"\x01",
		"\x02\x01",
		"\x08\x01\x02\x03\x04\x05\x06\x07",
		"\x01\x00",
		"\x02\x00\x01",
		"\x02\x00\xff",
		"\x08\x00\x01\x02\x03\x04\x05\x06\x07",
		"\x08\x80\x00\x00\x00\x00\x00\x00\x00",
		"\x08\xff\xff\xff\xff\xff\xff\xff\xff",
		"\x09\x01",
		"\x09\x00\x00\x00\x00\x00\x00\x00\x00\x01",
		"\x09\x01\x00\x00\x00\x00\x00\x00\x00\x00",
		"\x09\x01\x00\x00\x00\x00\x00\x00\x00\x01",
		"\x10" + strings.Repeat("\x01", 16),
		"\xff" + strings.Repeat("\x01", 255),
		"\xff",
	} {
		r := octet.Read(s)
		if got := r.Num(math.MaxInt); got != 0 {
			t.Errorf("%x: %d", s, got)
		}
		wantFailed(t, "no number", r)
	}
}

// P1.2: of a number that is cut off anywhere there is none.
func TestReadNumCut(t *testing.T) {
	for _, c := range laid {
		for size := range len(c.want) {
			r := octet.Read(c.want[:size])
			if got := r.Num(math.MaxInt); got != 0 {
				t.Errorf("%x: %d", c.want[:size], got)
			}
			wantFailed(t, "cut off", r)
		}
	}
}

// P1.2
func TestReadText(t *testing.T) {
	long := strings.Repeat("x", 300)
	for _, s := range []string{"", "a", "\x00\xff", long} {
		for _, most := range []int{len(s), len(s) + 1, math.MaxInt} {
			r := octet.Read(string(octet.Text(nil, s)) + "ab")
			if got := r.Text(most); got != s {
				t.Errorf("text of %d bytes: %q", len(s), got)
			}
			wantGood(t, "text", r, 2)
		}
	}
	r := octet.Read("\x00ab")
	if got := r.Text(-1); got != "" {
		t.Errorf("no text: %q", got)
	}
	wantGood(t, "no text", r, 2)
}

// P1.2
func TestReadTextWrong(t *testing.T) {
	for _, c := range []struct {
		s    string
		most int
	}{
		{"", 9},
		{"\x01", 9},
		{"\x01\x01", 9},
		{"\x01\x03ab", 9},
		{"\x01\x03abc", 2},
		{"\x01\x01a", 0},
		{"\x01\x01a", -1},
		{"\x01\x00", 9},
		{"\x02\x00\x01a", 9},
		{"\x08\x7f\xff\xff\xff\xff\xff\xff\xffabc", math.MaxInt},
		{"\x08\xff\xff\xff\xff\xff\xff\xff\xffabc", math.MaxInt},
	} {
		r := octet.Read(c.s)
		if got := r.Text(c.most); got != "" {
			t.Errorf("%x up to %d: %q", c.s, c.most, got)
		}
		wantFailed(t, "no text", r)
	}
}

// P1.2
func TestReadRaw(t *testing.T) {
	r := octet.Read("a\x00\xffbc")
	for _, c := range []struct {
		n    int
		want string
		left int
	}{
		{0, "", 5},
		{-1, "", 5},
		{math.MinInt, "", 5},
		{3, "a\x00\xff", 2},
		{1, "b", 1},
		{1, "c", 0},
		{0, "", 0},
	} {
		if got := r.Raw(c.n); got != c.want {
			t.Errorf("%d bytes: %q", c.n, got)
		}
		wantGood(t, "bytes", r, c.left)
	}
	if got := octet.Read("abc").Raw(3); got != "abc" {
		t.Errorf("all bytes: %q", got)
	}
}

// P1.2
func TestReadRawTooFew(t *testing.T) {
	for _, s := range []string{"", "a", "abc"} {
		for _, n := range []int{len(s) + 1, math.MaxInt} {
			r := octet.Read(s)
			if got := r.Raw(n); got != "" {
				t.Errorf("%d bytes of %q: %q", n, s, got)
			}
			wantFailed(t, "too few bytes", r)
		}
	}
}

// P1.2
func TestReadFlag(t *testing.T) {
	r := octet.Read("\x01\x00\x01")
	for i, want := range []bool{true, false, true} {
		if r.Flag() != want {
			t.Errorf("flag %d isn't %t", i, want)
		}
		wantGood(t, "flag", r, 2-i)
	}
	if r.Flag() {
		t.Error("a flag of no bytes")
	}
	wantFailed(t, "no flag", r)
	for _, s := range []string{"", "\x02", "\x02\x01", "\x81", "\xff", "1", "0"} {
		r := octet.Read(s)
		if r.Flag() {
			t.Errorf("%x is true", s)
		}
		wantFailed(t, "no flag", r)
	}
}

// P1.2: bytes that are left are an error of End alone, which turns nothing.
func TestEndTurnsNothing(t *testing.T) {
	r := octet.Read("\x01\x01\x01")
	wantGood(t, "unread", r, 3)
	if got := r.Num(1); got != 1 {
		t.Errorf("behind End: %d", got)
	}
	wantGood(t, "in the middle", r, 1)
	if !r.Flag() {
		t.Error("behind End: false")
	}
	wantGood(t, "at the end", r, 0)
	wantGood(t, "of no bytes", octet.Read(""), 0)
}

// P1.2: an error stays, however much would be there to read.
func TestErrorStays(t *testing.T) {
	rest := "\x01\x01\x01a\x01\x00\x00"
	for _, wrong := range []struct {
		what string
		s    string
		read func(r *octet.Reader)
	}{
		{"number", "\x01\x00", func(r *octet.Reader) { r.Num(9) }},
		{"most", "\x01\x09", func(r *octet.Reader) { r.Num(8) }},
		{"text", "\x01\x09", func(r *octet.Reader) { r.Text(9) }},
		{"bytes", "", func(r *octet.Reader) { r.Raw(len(rest) + 1) }},
		{"flag", "\x02", func(r *octet.Reader) { r.Flag() }},
	} {
		r := octet.Read(wrong.s + rest)
		wrong.read(r)
		wantFailed(t, wrong.what, r)
	}
}

// P1.2
func TestNilReader(t *testing.T) {
	wantFailed(t, "nil", nil)
}

// P1.2: readers of one text don't turn each other.
func TestReadersApart(t *testing.T) {
	s := "\x01\x07\x01"
	a, b := octet.Read(s), octet.Read(s)
	if a.Num(6) != 0 || b.Num(7) != 7 || !b.Flag() {
		t.Error("numbers")
	}
	wantFailed(t, "the one", a)
	wantGood(t, "the other one", b, 0)
}

// P1.1 and P1.2: what is laid is what is read.
func TestLaidAndRead(t *testing.T) {
	var b []byte
	for _, c := range laid {
		b = octet.Flag(octet.Text(octet.Num(b, c.n), c.want), c.n%2 == 1)
	}
	r := octet.Read(string(b))
	for _, c := range laid {
		n, s, yes := r.Num(c.n), r.Text(len(c.want)), r.Flag()
		if n != c.n || s != c.want || yes != (c.n%2 == 1) {
			t.Errorf("of %d: %d, %x, %t", c.n, n, s, yes)
		}
	}
	wantGood(t, "all", r, 0)
}
