package ord_test

import (
	"bytes"
	"math"
	"math/rand"
	"slices"
	"strings"
	"testing"

	"mailbag/api"
	"mailbag/ord"
	"mailbag/val"
)

// texts are texts in order, with bytes 0, 1 and 255 in them.
var texts = []string{
	"", "\x00", "\x00\x00", "\x00\x00\x01", "\x00\x01", "\x00\xff", "\x01", "\x01\x00", "\x01\xff",
	"B", "a", "a\x00", "a\x00\x00", "a\x00\x01", "a\x00b", "a\x00\xff", "a\x01", "aa", "a\xff", "b",
	"\u00e9", "\xfe\xff", "\xff", "\xff\x00", "\xff\x00\x01", "\xff\x01", "\xff\xff",
}

// ints are numbers in order.
var ints = []int64{
	math.MinInt64, math.MinInt64 + 1, -1 << 56, -1 << 32, -65536, -257, -256, -255, -2, -1,
	0, 1, 2, 255, 256, 257, 65536, 1 << 32, 1 << 56, math.MaxInt64 - 1, math.MaxInt64,
}

// P3.1
func TestText(t *testing.T) {
	for s, want := range map[string]string{
		"":             "\x00\x01",
		"a":            "a\x00\x01",
		"\x00":         "\x00\xff\x00\x01",
		"\x00\x00":     "\x00\xff\x00\xff\x00\x01",
		"\x01":         "\x01\x00\x01",
		"\xff":         "\xff\x00\x01",
		"a\x00b":       "a\x00\xffb\x00\x01",
		"\x00\x01\xff": "\x00\xff\x01\xff\x00\x01",
		"\x00\xff":     "\x00\xff\xff\x00\x01",
		"\u00e9":       "\xc3\xa9\x00\x01",
	} {
		wantLaid(t, "Text of "+s, want, func(b []byte) []byte { return ord.Text(b, s) })
	}
}

// wantLaid holds what lays to lay such bytes behind others, and to leave these as they were.
func wantLaid(t *testing.T, what, want string, lay func(b []byte) []byte) {
	t.Helper()
	ahead := append(make([]byte, 0, 100), "ab"...)
	if got := string(lay(ahead)); got != "ab"+want || string(ahead) != "ab" {
		t.Errorf("%q behind ab: %x", what, got)
	}
	if got := string(lay(nil)); got != want {
		t.Errorf("%q: %x", what, got)
	}
}

// P3.1
func TestInt(t *testing.T) {
	for n, want := range map[int64]string{
		0:                   "\x80\x00\x00\x00\x00\x00\x00\x00",
		1:                   "\x80\x00\x00\x00\x00\x00\x00\x01",
		-1:                  "\x7f\xff\xff\xff\xff\xff\xff\xff",
		0x0102030405060708:  "\x81\x02\x03\x04\x05\x06\x07\x08",
		-0x0102030405060708: "\x7e\xfd\xfc\xfb\xfa\xf9\xf8\xf8",
		math.MaxInt64:       "\xff\xff\xff\xff\xff\xff\xff\xff",
		math.MinInt64:       "\x00\x00\x00\x00\x00\x00\x00\x00",
	} {
		wantLaid(t, "Int", want, func(b []byte) []byte { return ord.Int(b, n) })
	}
}

// P3.1
func TestVal(t *testing.T) {
	one := "\x04\x80\x00\x00\x00\x00\x00\x00\x01"
	for _, c := range []struct {
		v    val.Val
		want string
	}{
		{val.Val{}, "\x02"},
		{val.OfBool(false), "\x03\x02"},
		{val.OfBool(true), "\x03\x03"},
		{val.OfInt(1), one},
		{val.OfText(""), "\x05\x00\x01"},
		{val.OfText("a\x00"), "\x05a\x00\xff\x00\x01"},
		{val.OfList(), "\x06\x01"},
		{val.OfList(val.OfInt(1), val.Val{}), "\x06" + one + "\x02\x01"},
		{val.OfList(val.OfList(), val.OfMap()), "\x06\x06\x01\x07\x01\x01"},
		{val.OfMap(), "\x07\x01"},
		{val.OfMap(val.Field{}), "\x07\x02\x00\x01\x02\x01"},
		{val.OfMap(val.Field{Name: "b", Val: val.OfBool(true)}, val.Field{Name: "a\x00", Val: val.OfInt(1)}), "\x07\x02a\x00\xff\x00\x01" + one + "\x02b\x00\x01\x03\x03\x01"},
	} {
		wantLaid(t, "Val", c.want, func(b []byte) []byte { return ord.Val(b, c.v) })
	}
}

// P3.1: values that aren't right, and such as are very deep, are laid without harm.
func TestValOfWrong(t *testing.T) {
	deep := val.Val{}
	for range 1<<16 - 1 {
		deep = val.Val{Kind: val.List, List: []val.Val{deep}}
	}
	if got := ord.Val(nil, deep); len(got) != 2<<16-1 {
		t.Errorf("of the deep one: %d bytes", len(got))
	}
	falling := []val.Field{{Name: "b"}, {Name: "a"}}
	for _, c := range []struct {
		v    val.Val
		want string
	}{
		{val.Val{Kind: val.Map, Fields: falling}, "\x07\x02b\x00\x01\x02\x02a\x00\x01\x02\x01"},
		{val.Val{Kind: val.Bool, Num: 7, Text: "a", Fields: falling}, "\x03\x02"},
		{val.Val{Kind: 6}, "\x08"},
		{val.Val{Kind: -1}, "\x01"},
	} {
		wantLaid(t, "a wrong Val", c.want, func(b []byte) []byte { return ord.Val(b, c.v) })
	}
	if falling[0].Name != "b" {
		t.Error("fields that were handed in are turned")
	}
}

// P3.2
func TestKey(t *testing.T) {
	for _, c := range []struct {
		parts []string
		want  string
	}{
		{nil, ""},
		{[]string{""}, "\x00\x01"},
		{[]string{"a"}, "a\x00\x01"},
		{[]string{"a", "", "b\x00"}, "a\x00\x01\x00\x01b\x00\xff\x00\x01"},
		{[]string{"\x00", "\x01"}, "\x00\xff\x00\x01\x01\x00\x01"},
	} {
		if got := ord.Key(c.parts...); got != c.want {
			t.Errorf("%q: %x", c.parts, got)
		}
	}
}

// P3.2
func TestCut(t *testing.T) {
	for _, s := range texts {
		for _, rest := range append(texts, "\x00\x01", "\xff\x00\x01") {
			text, behind, is := ord.Cut(ord.Key(s) + rest)
			if !is || text != s || behind != rest {
				t.Errorf("%q and %q: %q, %q, %t", s, rest, text, behind, is)
			}
		}
	}
}

// broken are keys that don't begin with a text.
var broken = []string{
	"", "a", "ab", "\x00", "\x01", "\xff", "a\x00", "a\x00\xff", "a\x00\x00", "a\x00\x02", "a\x00\xfe\x00\x01",
	"\x00\x00\x01", "\x00\xff", "\x00\xff\x00", "\x00\xff\x00\xff", "\x00\xff\x01", "a\x01", "\x00a\x00\x01", "a\x00\xffb\x00\x02\x00\x01",
}

// P3.2
func TestCutOfNone(t *testing.T) {
	for _, key := range broken {
		if text, rest, is := ord.Cut(key); is || text != "" || rest != "" {
			t.Errorf("%x: %q, %q, %t", key, text, rest, is)
		}
	}
}

// P3.2
func TestParts(t *testing.T) {
	for _, parts := range [][]string{nil, {""}, {"a"}, {"", ""}, {"a\x00b", "", "c"}, texts} {
		if got, e := ord.Parts(ord.Key(parts...)); e != api.OK || !slices.Equal(got, parts) {
			t.Errorf("%q: %q, %d", parts, got, e)
		}
	}
}

// P3.2: keys that aren't whole are none.
func TestPartsOfNone(t *testing.T) {
	for _, key := range broken[1:] {
		for _, ahead := range []string{"", ord.Key("a"), ord.Key("\x00", "")} {
			if got, e := ord.Parts(ahead + key); e != api.ErrForm || len(got) != 0 {
				t.Errorf("%x: %q, %d", ahead+key, got, e)
			}
		}
	}
}

// P3.2: cut off anywhere, a key is that of the texts that are whole, or none.
func TestPartsCutOff(t *testing.T) {
	whole := map[string]int{}
	for i := range len(texts) + 1 {
		whole[ord.Key(texts[:i]...)] = i
	}
	all := ord.Key(texts...)
	for n := range len(all) {
		got, e := ord.Parts(all[:n])
		count, is := whole[all[:n]]
		if is && (e != api.OK || !slices.Equal(got, texts[:count])) || !is && (e != api.ErrForm || len(got) != 0) {
			t.Errorf("%x: %q, %d", all[:n], got, e)
		}
	}
}

// P3.2: whatever is read as a key is just what is laid of its texts.
func TestPartsOfAllShort(t *testing.T) {
	letters := "\x00\x01\x02a\xfe\xff"
	var try func(key string)
	try = func(key string) {
		if parts, e := ord.Parts(key); e == api.OK && ord.Key(parts...) != key {
			t.Errorf("%x: %q", key, parts)
		}
		if text, rest, is := ord.Cut(key); is && ord.Key(text)+rest != key {
			t.Errorf("%x: %q, %q", key, text, rest)
		}
		for i := range len(letters) {
			if len(key) < 6 {
				try(key + letters[i:i+1])
			}
		}
	}
	try("")
}

// P3.2
func TestNumber(t *testing.T) {
	for _, n := range ints {
		s := string(ord.Int(nil, n))
		if got, is := ord.Number(s); !is || got != n {
			t.Errorf("%d: %d, %t", n, got, is)
		}
		for _, wrong := range []string{"", s[:1], s[:7], s[1:], s + "\x00", "\x00" + s, s + s} {
			if got, is := ord.Number(wrong); is || got != 0 {
				t.Errorf("%x: %d, %t", wrong, got, is)
			}
		}
	}
}

// P3.2
func TestAfter(t *testing.T) {
	for prefix, want := range map[string]string{
		"\x00":         "\x01",
		"a":            "b",
		"ab":           "ac",
		"a\x00":        "a\x01",
		"a\x7f":        "a\x80",
		"a\x80":        "a\x81",
		"a\x80\xff":    "a\x81",
		"a\xfe":        "a\xff",
		"a\xff":        "b",
		"a\xff\xff":    "b",
		"\xff\x00":     "\xff\x01",
		"\xff\xfe\xff": "\xff\xff",
		"\xffa\xff":    "\xffb",
		"\u00e9":       "\u00ea",
		"\ufffd":       "\xef\xbf\xbe",
		"\ufffd\xff":   "\xef\xbf\xbe",
	} {
		if got, is := ord.After(prefix); !is || got != want {
			t.Errorf("%x: %x, %t", prefix, got, is)
		}
	}
	for _, prefix := range []string{"", "\xff", "\xff\xff", strings.Repeat("\xff", 1000)} {
		if got, is := ord.After(prefix); is || got != "" {
			t.Errorf("%x: %x, %t", prefix, got, is)
		}
	}
}

// P3.2: every byte but 255 turns to the next one.
func TestAfterEachByte(t *testing.T) {
	for c := range 255 {
		for _, tail := range []string{"", "\xff", "\xff\xff"} {
			prefix := "\xff\x80" + string([]byte{byte(c)}) + tail
			want := "\xff\x80" + string([]byte{byte(c + 1)})
			if got, is := ord.After(prefix); !is || got != want {
				t.Errorf("%x: %x, %t", prefix, got, is)
			}
		}
	}
}

// P3.3
func TestOrderOfTexts(t *testing.T) {
	if !slices.IsSorted(texts) {
		t.Fatal("texts aren't in order")
	}
	var laid []string
	for _, s := range texts {
		laid = append(laid, string(ord.Text(nil, s)))
	}
	wantRising(t, laid)
}

// P3.3
func TestOrderOfInts(t *testing.T) {
	var laid []string
	for _, n := range ints {
		laid = append(laid, string(ord.Int(nil, n)))
	}
	wantRising(t, laid)
}

// wantRising holds bytes to be in order, and none to be the beginning of another.
func wantRising(t *testing.T, laid []string) {
	t.Helper()
	for i, s := range laid {
		for k, o := range laid {
			if (i < k) != (s < o) || i != k && strings.HasPrefix(o, s) {
				t.Errorf("%d and %d: %x, %x", i, k, s, o)
			}
		}
	}
}

// values are right values, of each kind, and of each in each other, so deep.
func values(deep int) []val.Val {
	list := []val.Val{{}, val.OfBool(false), val.OfBool(true)}
	for _, n := range ints {
		list = append(list, val.OfInt(n))
	}
	for _, s := range texts {
		list = append(list, val.OfText(s))
	}
	if deep == 0 {
		return list
	}
	r := rand.New(rand.NewSource(int64(deep)))
	parts := values(deep - 1)
	some := func() val.Val { return parts[r.Intn(len(parts))] }
	list = append(list, val.OfList(), val.OfMap())
	for range 150 {
		v, w := some(), some()
		name, other := texts[r.Intn(len(texts))], texts[r.Intn(len(texts))]
		list = append(list,
			val.OfList(v), val.OfList(v, w), val.OfList(v, w, v),
			val.OfMap(val.Field{Name: name, Val: v}),
			val.OfMap(val.Field{Name: name, Val: v}, val.Field{Name: other, Val: w}))
	}
	return list
}

// P3.3: what is laid has the order that Compare tells, is unlike of unlike values, and not the beginning of another.
func TestOrderOfVals(t *testing.T) {
	all := values(3)
	var laid [][]byte
	for _, v := range all {
		laid = append(laid, ord.Val(nil, v))
	}
	for i, v := range all {
		for k, o := range all {
			c := v.Compare(o)
			if got := bytes.Compare(laid[i], laid[k]); (c < 0) != (got < 0) || (c > 0) != (got > 0) {
				t.Fatalf("%v and %v: %d, but %x and %x", v, o, c, laid[i], laid[k])
			}
			if c != 0 && bytes.HasPrefix(laid[k], laid[i]) {
				t.Fatalf("%x is the beginning of %x", laid[i], laid[k])
			}
		}
	}
}

// P3.3: keys have the order of their texts, one by one.
func TestOrderOfKeys(t *testing.T) {
	lists := [][]string{nil}
	for _, s := range texts {
		lists = append(lists, []string{s})
		for _, o := range texts {
			lists = append(lists, []string{s, o}, []string{s, o, s})
		}
	}
	for _, a := range lists {
		for _, b := range lists {
			if got, want := strings.Compare(ord.Key(a...), ord.Key(b...)), slices.Compare(a, b); got != want {
				t.Fatalf("%q and %q: %d", a, b, got)
			}
		}
	}
}
