package patch_test

import (
	"math"
	"reflect"
	"strings"
	"testing"

	"mailbag/api"
	"mailbag/octet"
	"mailbag/patch"
	"mailbag/val"
)

// coded are operations and their bytes.
func coded() []struct {
	ops  []patch.Op
	want string
} {
	long := strings.Repeat("x", 256)
	return []struct {
		ops  []patch.Op
		want string
	}{
		{nil, "\x00"},
		{[]patch.Op{set(val.Val{}, "a")}, "\x01\x01" + "\x01\x01" + "\x01\x01" + "\x01\x01a" + "\x01\x01\x00"},
		{[]patch.Op{drop("a")}, "\x01\x01" + "\x01\x02" + "\x01\x01" + "\x01\x01a" + "\x01\x01\x00"},
		{[]patch.Op{add(1, "n")}, "\x01\x01" + "\x01\x03" + "\x01\x01" + "\x01\x01n" + "\x01\x04\x02\x00\x01\x02"},
		{[]patch.Op{drop("")}, "\x01\x01" + "\x01\x02" + "\x01\x01" + "\x00" + "\x01\x01\x00"},
		{[]patch.Op{drop("a", "", "b\x00")}, "\x01\x01" + "\x01\x02" + "\x01\x03" + "\x01\x01a\x00\x01\x02b\x00" + "\x01\x01\x00"},
		{[]patch.Op{drop(names(16)...)}, "\x01\x01" + "\x01\x02" + "\x01\x10" + strings.Repeat("\x01\x01a", 16) + "\x01\x01\x00"},
		{[]patch.Op{drop(long)}, "\x01\x01" + "\x01\x02" + "\x01\x01" + "\x02\x01\x00" + long + "\x01\x01\x00"},
		{[]patch.Op{set(val.OfText(long), "a")}, "\x01\x01" + "\x01\x01" + "\x01\x01" + "\x01\x01a" + "\x02\x01\x04\x03\x02\x01\x00" + long},
		{
			[]patch.Op{set(mapOf(field("b", val.OfBool(true))), "a"), drop("n"), add(-1, "a", "b")},
			"\x01\x03" +
				"\x01\x01" + "\x01\x01" + "\x01\x01a" + "\x01\x08\x05\x01\x01\x01\x01b\x01\x01" +
				"\x01\x02" + "\x01\x01" + "\x01\x01n" + "\x01\x01\x00" +
				"\x01\x03" + "\x01\x02" + "\x01\x01a\x01\x01b" + "\x01\x04\x02\x00\x01\x01",
		},
		{manyOps(1)[:0], "\x00"},
	}
}

// wantCoded holds operations to be what their bytes are read as.
func wantCoded(t *testing.T, ops []patch.Op) string {
	t.Helper()
	s, e := patch.Encode(ops)
	if e != api.OK {
		t.Errorf("Encode of %d: %d", len(ops), e)
	}
	r := octet.Read(s)
	got, e := patch.Decode(r)
	if e != api.OK || r.End() != api.OK || len(got) != len(ops) || len(ops) > 0 && !reflect.DeepEqual(got, ops) {
		t.Errorf("%v: %x, %v, %d", ops, s, got, e)
	}
	return s
}

// wantFault holds Decode to ErrForm.
func wantFault(t *testing.T, what string, r *octet.Reader) {
	t.Helper()
	if got, e := patch.Decode(r); e != api.ErrForm || len(got) != 0 {
		t.Errorf("%s: %v, %d", what, got, e)
	}
}

// P8.3
func TestEncode(t *testing.T) {
	for i, c := range coded() {
		if got, e := patch.Encode(c.ops); e != api.OK || got != c.want {
			t.Errorf("%d: %x, %d", i, got, e)
		}
		if got := wantCoded(t, c.ops); got != c.want {
			t.Errorf("%d: %x", i, got)
		}
	}
}

// P8.3: what stands behind the operations is left to read.
func TestDecodeLeavesTheRest(t *testing.T) {
	for i, c := range coded() {
		r := octet.Read("\x01\x07" + c.want + "\x02\x01\x2c")
		if n := r.Num(9); n != 7 {
			t.Error(n)
		}
		if got, e := patch.Decode(r); e != api.OK || len(got) != len(c.ops) {
			t.Errorf("%d: %v, %d", i, got, e)
		}
		if r.Left() != 3 || r.Num(1000) != 300 || r.End() != api.OK {
			t.Errorf("%d: left %d, %d", i, r.Left(), r.Err())
		}
	}
}

// P8.3
func TestEncodeOfWrong(t *testing.T) {
	for what, o := range wrongOps() {
		for _, ops := range [][]patch.Op{{o}, {drop("a"), o}, {o, drop("a")}, append(manyOps(patch.MaxOps-1), o)} {
			if got, e := patch.Encode(ops); e != api.ErrArg || got != "" {
				t.Errorf("%s: %x, %d", what, got, e)
			}
		}
	}
	if got, e := patch.Encode([]patch.Op{set(endless(), "a")}); e != api.ErrArg || got != "" {
		t.Errorf("what is in itself: %x, %d", got, e)
	}
}

// P8.3: a value that is right, but has no bytes.
func TestEncodeOfTooLongValues(t *testing.T) {
	text := func(n int) val.Val { return val.OfText(strings.Repeat("x", n)) }
	for _, v := range []val.Val{text(api.MaxVal - 3), text(2 * api.MaxVal), listOf(text(2048), text(2048)), mapOf(field(text(api.MaxVal).Text, val.Val{}))} {
		o := set(v, "a")
		if !o.Right() {
			t.Error("isn't right")
		}
		for _, ops := range [][]patch.Op{{o}, {drop("a"), o}, {o, drop("a")}} {
			if got, e := patch.Encode(ops); e != api.ErrArg || got != "" {
				t.Errorf("%d bytes, %d", len(got), e)
			}
		}
	}
	wantCoded(t, []patch.Op{set(text(api.MaxVal-4), "a"), set(text(api.MaxVal-4), "b")})
}

// P8.3: MaxOps operations, and not one more, whatever these are.
func TestEncodeOfMany(t *testing.T) {
	for n := range 2 * patch.MaxOps {
		ops := manyOps(n)
		if n <= 50 {
			wantCoded(t, ops)
		} else if got, e := patch.Encode(ops); e != api.ErrLong || got != "" {
			t.Errorf("%d: %d bytes, %d", n, len(got), e)
		}
	}
	if got, e := patch.Encode(make([]patch.Op, patch.MaxOps+1)); e != api.ErrLong || got != "" {
		t.Errorf("wrong ones: %x, %d", got, e)
	}
	var most []patch.Op
	for range patch.MaxOps {
		most = append(most, add(math.MinInt64, names(patch.MaxPath)...))
	}
	wantCoded(t, most)
}

// P8.3: Encode knows no bound of names, Decode that of MaxVal bytes.
func TestLongNames(t *testing.T) {
	wantCoded(t, []patch.Op{drop(strings.Repeat("x", api.MaxVal), strings.Repeat("y", api.MaxVal))})
	for _, path := range [][]string{{strings.Repeat("x", api.MaxVal+1)}, {"a", strings.Repeat("x", 10*api.MaxVal), "b"}} {
		s, e := patch.Encode([]patch.Op{drop(path...)})
		if e != api.OK || !strings.Contains(s, path[len(path)-1]) {
			t.Errorf("%d bytes, %d", len(s), e)
		}
		wantFault(t, "a long name", octet.Read(s))
	}
}

// laid is operations' bytes of their parts, right or not.
type laid []byte

func (b laid) num(n int) laid     { return octet.Num(b, n) }
func (b laid) text(s string) laid { return octet.Text(b, s) }

// path lays how many names a path has, and as many names.
func (b laid) path(n int) laid {
	b = b.num(n)
	for range n {
		b = b.text("a")
	}
	return b
}

// P8.3: what is above its bound.
func TestDecodeAboveBounds(t *testing.T) {
	null, one := "\x00", "\x02\x00\x01\x02"
	many := laid{}.num(patch.MaxOps + 1)
	for range patch.MaxOps + 1 {
		many = many.num(2).path(1).text(null)
	}
	long := val.OfText(strings.Repeat("x", api.MaxVal-3))
	longBytes := string(octet.Text([]byte{byte(val.Text)}, long.Text))
	for what, b := range map[string]laid{
		"too many":         many,
		"far too many":     laid{}.num(math.MaxInt),
		"too many of none": laid{}.num(patch.MaxOps + 1),
		"kind 0":           laid{}.num(1).num(0).path(1).text(null),
		"kind 4":           laid{}.num(1).num(4).path(1).text(one),
		"kind 256 and 1":   laid{}.num(1).num(257).path(1).text(null),
		"greatest kind":    laid{}.num(1).num(math.MaxInt).path(1).text(null),
		"no path":          laid{}.num(1).num(2).path(0).text(null),
		"too long a path":  laid{}.num(1).num(2).path(17).text(null),
		"a path of 10000":  laid{}.num(1).num(2).path(10000).text(null),
		"a greatest path":  laid{}.num(1).num(2).num(math.MaxInt),
		"a long name":      laid{}.num(1).num(2).num(1).text(strings.Repeat("x", api.MaxVal+1)).text(null),
		"a long value":     laid{}.num(1).num(1).path(1).text(longBytes),
	} {
		wantFault(t, what, octet.Read(string(b)))
	}
	for what, b := range map[string]laid{
		"a path of 16": laid{}.num(1).num(2).path(16).text(null),
		"a name":       laid{}.num(1).num(2).num(1).text(strings.Repeat("x", api.MaxVal)).text(null),
		"a value":      laid{}.num(1).num(1).path(1).text(string(octet.Text([]byte{byte(val.Text)}, long.Text[1:]))),
	} {
		if ops, e := patch.Decode(octet.Read(string(b))); e != api.OK || len(ops) != 1 {
			t.Errorf("%s: %d", what, e)
		}
	}
}

// P8.3: a value that can't be read, and an operation that isn't Right.
func TestDecodeOfWrong(t *testing.T) {
	deep := strings.Repeat("\x04\x01\x01", 32) + "\x00"
	for _, v := range []string{"", "\x06", "\xff", "\x00\x00", "\x01", "\x01\x02", "\x02\x00\x01\x00", "\x03\x01\x02a", "\x04\x01\x02\x00", "\x05\x01\x02\x01\x01b\x00\x01\x01a\x00", deep} {
		for kind := 1; kind <= 3; kind++ {
			wantFault(t, "a value", octet.Read(string(laid{}.num(1).num(kind).path(1).text(v))))
			wantFault(t, "a value behind", octet.Read(string(laid{}.num(2).num(2).path(1).text("\x00").num(kind).path(1).text(v))))
			wantFault(t, "a value ahead", octet.Read(string(laid{}.num(2).num(kind).path(1).text(v).num(2).path(1).text("\x00"))))
		}
	}
	values := []string{"\x00", "\x01\x00", "\x01\x01", "\x02\x00\x00", "\x02\x00\x01\x02", "\x03\x00", "\x03\x01\x011", "\x04\x00", "\x04\x01\x01\x00", "\x05\x00"}
	for _, s := range values {
		v, e := val.Decode(s)
		if e != api.OK {
			t.Error(e)
		}
		for kind := range 5 {
			o := patch.Op{Kind: patch.Kind(kind), Path: names(1), Val: v}
			b := string(laid{}.num(1).num(kind).path(1).text(s))
			if !o.Right() {
				wantFault(t, "isn't right", octet.Read(b))
			} else if got := wantCoded(t, []patch.Op{o}); got != b {
				t.Errorf("%v: %x", o, got)
			}
		}
	}
}

// P8.3: cut off anywhere.
func TestDecodeCutOff(t *testing.T) {
	for _, c := range coded() {
		for n := range len(c.want) {
			r := octet.Read(c.want[:n])
			wantFault(t, "cut off", r)
			if r.Err() != api.ErrForm || r.Left() != 0 {
				t.Errorf("%x: Err %d, left %d", c.want[:n], r.Err(), r.Left())
			}
		}
	}
}

// P8.3: behind an error of the Reader, whatever stood there; and of a Reader that has nothing.
func TestDecodeBehindAnError(t *testing.T) {
	for _, c := range coded() {
		r := octet.Read("\x02" + c.want)
		r.Flag()
		wantFault(t, "behind an error", r)
		wantFault(t, "again", r)
	}
	r := octet.Read("\x00")
	if ops, e := patch.Decode(r); e != api.OK || len(ops) != 0 {
		t.Errorf("none: %v, %d", ops, e)
	}
	wantFault(t, "nothing is left", r)
	wantFault(t, "no bytes", octet.Read(""))
	wantFault(t, "no Reader", nil)
	wantFault(t, "an empty Reader", &octet.Reader{})
}

// P8.3: whatever bytes are read as operations are just these operations' bytes.
func TestDecodeOfAllShort(t *testing.T) {
	letters := "\x00\x01\x02\x03a"
	most := 8
	if testing.Short() {
		most = 6
	}
	var try func(s string)
	try = func(s string) {
		r := octet.Read("\x01\x01" + s)
		ops, e := patch.Decode(r)
		if e == api.OK {
			again, e := patch.Encode(ops)
			if read := len(s) + 2 - r.Left(); e != api.OK || len(ops) != 1 || !ops[0].Right() || again != ("\x01\x01" + s)[:read] {
				t.Errorf("%x: %v, %x, %d", s, ops, again, e)
			}
		} else if e != api.ErrForm || len(ops) != 0 {
			t.Errorf("%x: %v, %d", s, ops, e)
		}
		for i := range len(letters) {
			if len(s) < most && e != api.OK {
				try(s + letters[i:i+1])
			}
		}
	}
	try("")
}

// P8.3: what is handed in isn't turned, and no two answers share a list.
func TestCodeAnswersAreNew(t *testing.T) {
	ops := someOps()
	s, e := patch.Encode(ops)
	if e != api.OK || !reflect.DeepEqual(ops, someOps()) {
		t.Errorf("Encode turned its operations: %d", e)
	}
	got, _ := patch.Decode(octet.Read(s))
	again, _ := patch.Decode(octet.Read(s))
	for i := range got {
		spoil(got[i].Val)
		for k := range got[i].Path {
			got[i].Path[k] = "spoilt"
		}
		for k := i + 1; k < len(got); k++ {
			if !reflect.DeepEqual(got[k], again[k]) {
				t.Errorf("%d and %d share", i, k)
			}
		}
	}
	if !reflect.DeepEqual(again, someOps()) {
		t.Errorf("answers share: %v", again)
	}
}
