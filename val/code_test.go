package val_test

import (
	"math"
	"math/rand"
	"reflect"
	"strings"
	"testing"

	"mailbag/api"
	"mailbag/octet"
	"mailbag/val"
)

// coded are values and their bytes.
func coded() []struct {
	v    val.Val
	want string
} {
	long := strings.Repeat("x", 256)
	return []struct {
		v    val.Val
		want string
	}{
		{val.Val{}, "\x00"},
		{val.OfBool(false), "\x01\x00"},
		{val.OfBool(true), "\x01\x01"},
		{val.OfInt(0), "\x02\x00\x00"},
		{val.OfInt(-1), "\x02\x00\x01\x01"},
		{val.OfInt(1), "\x02\x00\x01\x02"},
		{val.OfInt(-2), "\x02\x00\x01\x03"},
		{val.OfInt(127), "\x02\x00\x01\xfe"},
		{val.OfInt(-128), "\x02\x00\x01\xff"},
		{val.OfInt(128), "\x02\x00\x02\x01\x00"},
		{val.OfInt(1<<31 - 1), "\x02\x00\x04\xff\xff\xff\xfe"},
		{val.OfInt(-1 << 31), "\x02\x00\x04\xff\xff\xff\xff"},
		{val.OfInt(1 << 31), "\x02\x01\x01\x00"},
		{val.OfInt(-1<<31 - 1), "\x02\x01\x01\x01\x01"},
		{val.OfInt(1 << 40), "\x02\x02\x02\x00\x00"},
		{val.OfInt(math.MaxInt64), "\x02\x04\xff\xff\xff\xff\x04\xff\xff\xff\xfe"},
		{val.OfInt(math.MinInt64), "\x02\x04\xff\xff\xff\xff\x04\xff\xff\xff\xff"},
		{val.OfText(""), "\x03\x00"},
		{val.OfText("a\x00\xff"), "\x03\x01\x03a\x00\xff"},
		{val.OfText(long), "\x03\x02\x01\x00" + long},
		{val.OfList(), "\x04\x00"},
		{val.OfList(val.OfInt(1), val.Val{}), "\x04\x01\x02\x02\x00\x01\x02\x00"},
		{val.OfList(val.OfList(), val.OfList(val.OfMap())), "\x04\x01\x02\x04\x00\x04\x01\x01\x05\x00"},
		{val.OfMap(), "\x05\x00"},
		{val.OfMap(val.Field{}), "\x05\x01\x01\x00\x00"},
		{val.OfMap(field("n", val.OfInt(5)), field("b", val.OfBool(true))), "\x05\x01\x02\x01\x01b\x01\x01\x01\x01n\x02\x00\x01\x0a"},
		{inLists(31, val.Val{}), strings.Repeat("\x04\x01\x01", 31) + "\x00"},
		{inMaps(31, val.OfList()), strings.Repeat("\x05\x01\x01\x01\x01a", 31) + "\x04\x00"},
	}
}

// P2.3
func TestEncode(t *testing.T) {
	for _, c := range coded() {
		if got, e := c.v.Encode(); e != api.OK || got != c.want {
			t.Errorf("%v: %x, %d", c.v, got, e)
		}
	}
}

// P2.3
func TestDecode(t *testing.T) {
	for _, c := range coded() {
		if got, e := val.Decode(c.want); e != api.OK || !reflect.DeepEqual(got, c.v) {
			t.Errorf("%x: %v, %d", c.want, got, e)
		}
	}
}

// P2.3
func TestEncodeOfWrong(t *testing.T) {
	for what, v := range wrong() {
		if got, e := v.Encode(); e != api.ErrArg || got != "" {
			t.Errorf("%s: %x, %d", what, got, e)
		}
	}
}

// P2.3: what is wrong and too long is wrong.
func TestEncodeOfWrongAndLong(t *testing.T) {
	long := val.OfText(strings.Repeat("x", api.MaxVal))
	for i, v := range []val.Val{
		{Kind: val.Text, Text: long.Text, Num: 1},
		listOf(long, long, val.Val{Kind: 9}),
		mapOf(field(long.Text, val.Val{}), field("a", val.Val{})),
		listOf(long, inLists(api.MaxDeep, val.Val{})),
	} {
		if got, e := v.Encode(); e != api.ErrArg || got != "" {
			t.Errorf("%d: %d bytes, %d", i, len(got), e)
		}
	}
}

// byLength are values that have so many bytes.
func byLength(n int) map[string]val.Val {
	some := func(n int) string { return strings.Repeat("x", n) }
	nulls := make([]val.Val, n-4)
	return map[string]val.Val{
		"text":        val.OfText(some(n - 4)),
		"list":        listOf(nulls...),
		"text within": listOf(val.Val{}, val.OfText(some(n-8))),
		"text ahead":  listOf(val.OfText(some(n-8)), val.Val{}),
		"field":       mapOf(field("a", val.OfText(some(n-10)))),
		"name":        mapOf(field(some(n-7), val.Val{})),
		"last field":  mapOf(field("a", val.OfText(some(n-14))), field("b", val.Val{})),
		"last name":   mapOf(field("a", val.Val{}), field(some(n-11), val.Val{})),
		"bool":        listOf(val.OfText(some(n-9)), val.OfBool(true)),
		"int":         listOf(val.OfText(some(n-11)), val.OfInt(1)),
	}
}

// P2.3: MaxVal bytes, and not one more.
func TestLongest(t *testing.T) {
	for _, n := range []int{api.MaxVal - 1, api.MaxVal} {
		for what, v := range byLength(n) {
			s, e := v.Encode()
			if e != api.OK || len(s) != n {
				t.Errorf("%s of %d bytes: %d, %d", what, n, len(s), e)
			}
			if got, e := val.Decode(s); e != api.OK || !got.Same(v) {
				t.Errorf("%s of %d bytes: %d", what, n, e)
			}
		}
	}
	for _, n := range []int{api.MaxVal + 1, api.MaxVal + 2, 10 * api.MaxVal} {
		for what, v := range byLength(n) {
			if s, e := v.Encode(); e != api.ErrLong || s != "" {
				t.Errorf("%s of %d bytes: %d, %d", what, n, len(s), e)
			}
		}
	}
}

// P2.3: what is too long isn't read, whatever it is.
func TestDecodeTooLong(t *testing.T) {
	text := string(octet.Text([]byte("\x03"), strings.Repeat("x", api.MaxVal-3)))
	if len(text) != api.MaxVal+1 {
		t.Errorf("%d bytes", len(text))
	}
	for _, s := range []string{
		text,
		strings.Repeat("\x09", api.MaxVal+1),
		strings.Repeat("\x04\x01\x01", api.MaxVal),
		strings.Repeat("\x00", 10*api.MaxVal),
	} {
		wantFault(t, s, api.ErrLong)
	}
	wantFault(t, strings.Repeat("\x09", api.MaxVal), api.ErrForm)
	wantFault(t, strings.Repeat("\x04\x01\x01", api.MaxVal/3), api.ErrDeep)
}

// wantFault holds Decode to an error.
func wantFault(t *testing.T, s string, want api.Errno) {
	t.Helper()
	if got, e := val.Decode(s); e != want || !reflect.DeepEqual(got, val.Val{}) {
		t.Errorf("%x: %v, %d", s, got, e)
	}
}

// P2.3: cut off anywhere, and with anything behind it, nothing is a value's bytes.
func TestDecodeCutOffOrLeft(t *testing.T) {
	for _, c := range coded() {
		for n := range len(c.want) {
			wantFault(t, c.want[:n], api.ErrForm)
		}
		for _, behind := range []string{"\x00", "\xff", c.want} {
			wantFault(t, c.want+behind, api.ErrForm)
		}
	}
}

// P2.3
func TestDecodeOfAnotherForm(t *testing.T) {
	for _, s := range []string{
		"",
		"\x06", "\x07\x00", "\xff",
		"\x01\x02", "\x01\xff",
		"\x02", "\x02\x00", "\x02\x01\x00\x00", "\x02\x00\x01\x00", "\x02\x00\x02\x00\x01",
		"\x02\x05\x01\x00\x00\x00\x00\x00",
		"\x02\x00\x05\x01\x00\x00\x00\x00",
		"\x02\x00\x09\x01\x00\x00\x00\x00\x00\x00\x00\x00",
		"\x03\x01\x00", "\x03\x02\x00\x01a", "\x03\x01\x02a",
		"\x03\x08\x7f\xff\xff\xff\xff\xff\xff\xff",
		"\x04\x01\x00", "\x04\x01\x01", "\x04\x01\x02\x00", "\x04\x01\x01\x06", "\x04\x02\x00\x01\x00",
		"\x04\x08\x7f\xff\xff\xff\xff\xff\xff\xff\x00",
		"\x04\x08\xff\xff\xff\xff\xff\xff\xff\xff\x00",
		"\x05\x01\x00", "\x05\x01\x01", "\x05\x01\x01\x00", "\x05\x01\x01\x01\x01", "\x05\x01\x01\x01\x01a", "\x05\x01\x01\x01\x00\x00",
		"\x05\x01\x01\x01\x01a\x06",
		"\x05\x01\x02\x01\x01a\x00\x01\x01a\x00",
		"\x05\x01\x02\x01\x01b\x00\x01\x01a\x00",
		"\x05\x01\x02\x00\x00\x00\x00",
		"\x05\x01\x02\x01\x01a\x00\x00\x00",
		"\x05\x01\x03\x01\x01a\x00\x01\x01c\x00\x01\x01b\x00",
		"\x05\x01\x02\x01\x01b\x00\x01\x02aa\x00",
		"\x05\x08\x7f\xff\xff\xff\xff\xff\xff\xff\x01\x01a\x00",
		"\x04\x01\x01\x05\x01\x02\x01\x01b\x00\x01\x01a\x00",
	} {
		wantFault(t, s, api.ErrForm)
	}
}

// P2.3: ErrDeep where a value would be in MaxDeep others.
func TestDecodeTooDeep(t *testing.T) {
	list, field := "\x04\x01\x01", "\x05\x01\x01\x01\x01a"
	for _, s := range []string{
		strings.Repeat(list, 32) + "\x00",
		strings.Repeat(field, 32) + "\x00",
		strings.Repeat(list+field, 16) + "\x00",
		strings.Repeat(list, 32),
		strings.Repeat(field, 32),
		strings.Repeat(list, 32) + "\x06",
		strings.Repeat(list, 31) + "\x04\x01\x09",
		strings.Repeat(list, 1000),
		"\x04\x01\x02\x00" + strings.Repeat(list, 31) + "\x00",
	} {
		wantFault(t, s, api.ErrDeep)
	}
	for _, s := range []string{
		strings.Repeat(list, 31) + "\x00",
		strings.Repeat(list, 31) + "\x04\x00",
		strings.Repeat(field, 31) + "\x05\x00",
		strings.Repeat(field, 31) + "\x03\x01\x01a",
	} {
		if got, e := val.Decode(s); e != api.OK || !got.Right() {
			t.Errorf("%x: %d", s, e)
		}
	}
}

// P2.3: of a fault in its form and one of its depth the first one from the left tells.
func TestDecodeFirstFault(t *testing.T) {
	deep := strings.Repeat("\x04\x01\x01", 32)
	for _, c := range []struct {
		s    string
		want api.Errno
	}{
		{"\x04\x01\x02\x06" + deep, api.ErrForm},
		{"\x04\x01\x02" + deep + "\x06", api.ErrDeep},
		{"\x04\x01\x09" + deep, api.ErrDeep},
		{"\x04\x02\xff\xff" + deep, api.ErrDeep},
		{"\x04\x02\x00\x01" + deep, api.ErrForm},
		{"\x05\x01\x02\x01\x01b\x00\x01\x01a" + deep, api.ErrForm},
		{"\x05\x01\x02\x01\x01b" + deep + "\x01\x01a\x00", api.ErrDeep},
		{"\x05\x02\xff\xff\x01\x01b" + deep, api.ErrDeep},
		{"\x00" + deep, api.ErrForm},
		{deep[3:] + "\x04\x01\x00", api.ErrForm},
		{deep[3:] + "\x05\x01\x01", api.ErrForm},
		{deep[3:] + "\x05\x01\x01\x01\x02a", api.ErrForm},
		{deep[3:] + "\x05\x01\x01\x01\x01a", api.ErrDeep},
		{deep[3:] + "\x05\x01\x01\x00", api.ErrDeep},
	} {
		wantFault(t, c.s, c.want)
	}
}

// P2.3: whatever bytes are read as a value are just that value's bytes, and it is right.
func TestDecodeOfAllShort(t *testing.T) {
	letters := "\x00\x01\x02\x03\x04\x05\x06a\xff"
	most := 6
	if testing.Short() {
		most = 4
	}
	var try func(s string)
	try = func(s string) {
		if v, e := val.Decode(s); e == api.OK {
			if again, e := v.Encode(); e != api.OK || again != s || !v.Right() {
				t.Errorf("%x: %v, %x, %d", s, v, again, e)
			}
		} else if e != api.ErrForm || !reflect.DeepEqual(v, val.Val{}) {
			t.Errorf("%x: %v, %d", s, v, e)
		}
		for i := range len(letters) {
			if len(s) < most {
				try(s + letters[i:i+1])
			}
		}
	}
	try("")
}

// anyVal is some right value that is so deep at most.
func anyVal(r *rand.Rand, deep int) val.Val {
	kinds := 6
	if deep < 2 {
		kinds = 4
	}
	text := func() string {
		b := make([]byte, r.Intn(4))
		for i := range b {
			b[i] = "\x00\x01ab\xfe\xff"[r.Intn(6)]
		}
		return string(b)
	}
	switch val.Kind(r.Intn(kinds)) {
	case val.Bool:
		return val.OfBool(r.Intn(2) == 1)
	case val.Int:
		return val.OfInt(int64(r.Uint64()) >> r.Intn(64))
	case val.Text:
		return val.OfText(text())
	case val.List:
		var list []val.Val
		for range r.Intn(4) {
			list = append(list, anyVal(r, deep-1))
		}
		return val.OfList(list...)
	case val.Map:
		m := val.OfMap()
		for range r.Intn(4) {
			m = m.With(text(), anyVal(r, deep-1))
		}
		return m
	}
	return val.Val{}
}

// P2.1, P2.2 and P2.3: of values of all shapes.
func TestOfManyValues(t *testing.T) {
	r := rand.New(rand.NewSource(1))
	var ahead val.Val
	for range 20000 {
		v := anyVal(r, 5)
		s, e := v.Encode()
		got, back := val.Decode(s)
		if !v.Right() || e != api.OK || back != api.OK || !reflect.DeepEqual(got, v) {
			t.Fatalf("%v: %x, %d, %v, %d", v, s, e, got, back)
		}
		other, _ := ahead.Encode()
		if v.Same(ahead) != (s == other) || sign(v.Compare(ahead)) != -sign(ahead.Compare(v)) {
			t.Fatalf("%v and %v: %d", v, ahead, v.Compare(ahead))
		}
		ahead = v
	}
}
