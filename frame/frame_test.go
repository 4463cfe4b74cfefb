package frame_test

import (
	"hash/crc32"
	"math/rand"
	"slices"
	"strconv"
	"strings"
	"testing"

	"mailbag/api"
	"mailbag/frame"
)

// castagnoli is the library's sum.
func castagnoli(s string) uint32 {
	return crc32.Checksum([]byte(s), crc32.MakeTable(crc32.Castagnoli))
}

// powers are the powers of the divisor, as the chapter tells them.
func powers() []int {
	return []int{32, 28, 27, 26, 25, 23, 22, 20, 19, 18, 14, 13, 11, 10, 9, 8, 6, 0}
}

// divided is the sum in the chapter's own words: a polynomial, power by power, of which the rest is told.
func divided(s string) uint32 {
	poly := make([]bool, 8*len(s)+32) // the highest power first
	for i := range 8 * len(s) {
		poly[i] = s[i/8]>>(i%8)&1 == 1
	}
	for i := range 32 {
		poly[i] = !poly[i]
	}
	for i := range 8 * len(s) {
		if !poly[i] {
			continue
		}
		for _, p := range powers() {
			poly[i+32-p] = !poly[i+32-p]
		}
	}
	sum := uint32(0)
	for i, yes := range poly[8*len(s):] {
		if !yes { // turned
			sum |= 1 << i
		}
	}
	return sum
}

// noise is n bytes of a source.
func noise(r *rand.Rand, n int) string {
	b := make([]byte, n)
	for i := range b {
		b[i] = byte(r.Intn(256))
	}
	return string(b)
}

// four is a number as four bytes, the lowest one first.
func four(n uint32) string {
	return string([]byte{byte(n), byte(n >> 8), byte(n >> 16), byte(n >> 24)})
}

// lay is what Put would lay of a length and a text, with sums that are right, whatever the length says.
func lay(size uint32, s string) string {
	return four(size) + four(castagnoli(four(size))) + four(castagnoli(s)) + s
}

// put is a text's frame.
func put(t *testing.T, s string) string {
	t.Helper()
	f, e := frame.Put(s)
	if e != api.OK {
		t.Fatalf("Put of %d bytes: %d", len(s), e)
	}
	return f
}

// wantGet holds Get to tell such a text and so many bytes.
func wantGet(t *testing.T, what, b, text string, n int) {
	t.Helper()
	if s, got := frame.Get(b); s != text || got != n {
		t.Errorf("Get of %s: %.40q, %d, not %.40q, %d", what, s, got, text, n)
	}
}

// wantAll holds All to tell such texts and so many bytes.
func wantAll(t *testing.T, what, b string, n int, texts ...string) {
	t.Helper()
	if got, end := frame.All(b); !slices.Equal(got, texts) || end != n {
		t.Errorf("All of %s: %.80q, %d, not %.80q, %d", what, got, end, texts, n)
	}
}

// texts are texts of all sorts and lengths.
func texts() []string {
	r := rand.New(rand.NewSource(1))
	all := []string{"", "a", "123456789", "\x00", "\xff", "\x00\x00\x00\x00", "\xff\xff\xff\xff", strings.Repeat("\x00", 40), strings.Repeat("\xff", 40), strings.Repeat("\x00\xff", 300)}
	for n := range 70 {
		all = append(all, noise(r, n))
	}
	return append(all, noise(r, 1000), noise(r, 5000))
}

// P5.1
func TestSum(t *testing.T) {
	for _, c := range []struct {
		s   string
		sum uint32
	}{
		{"", 0},
		{"123456789", 0xe3069283},
		{"a", 0xc1d04330},
		{"\x00", 0x527d5351},
		{"\xff", 0xff000000},
		{"\x00\x00\x00\x00", 0x48674bc7},
		{"\xff\xff\xff\xff", 0xffffffff},
		{strings.Repeat("\x00", 32), 0x8a9136aa},
		{strings.Repeat("\xff", 32), 0x62a8ab43},
	} {
		if got := frame.Sum(c.s); got != c.sum {
			t.Errorf("Sum of %q: %08x, not %08x", c.s, got, c.sum)
		}
	}
}

// P5.1
func TestSumIsTheRestOfAPolynomial(t *testing.T) {
	all := texts()
	for i := range 256 {
		all = append(all, string([]byte{byte(i)}))
	}
	for _, s := range all {
		if got := frame.Sum(s); got != divided(s) {
			t.Errorf("Sum of %.40q: %08x, not %08x", s, got, divided(s))
		}
	}
	long := noise(rand.New(rand.NewSource(2)), 1<<20)
	if got := frame.Sum(long); got != castagnoli(long) {
		t.Errorf("Sum of %d bytes: %08x, not %08x", len(long), got, castagnoli(long))
	}
}

// P5.1: sums of texts of one length that are laid over each other (each bit yes where just one of them has it, or all three).
func TestSumOfTextsLaidOverEachOther(t *testing.T) {
	r := rand.New(rand.NewSource(3))
	for n := range 60 {
		a, b, c := noise(r, n), noise(r, n), noise(r, n)
		over := make([]byte, n)
		for i := range over {
			over[i] = a[i] ^ b[i] ^ c[i]
		}
		if got, sums := frame.Sum(string(over)), frame.Sum(a)^frame.Sum(b)^frame.Sum(c); got != sums {
			t.Errorf("%d bytes: %08x, not %08x", n, got, sums)
		}
	}
}

// P5.2
func TestPut(t *testing.T) {
	if f := put(t, "abc"); f != "\x03\x00\x00\x00"+four(castagnoli("\x03\x00\x00\x00"))+"\xb7\x3f\x4b\x36"+"abc" {
		t.Errorf("abc: %q", f)
	}
	if f := put(t, ""); f != "\x00\x00\x00\x00\xc7\x4b\x67\x48\x00\x00\x00\x00" {
		t.Errorf("no bytes: %q", f)
	}
	for _, n := range []int{1, 255, 256, 65535, 65536, frame.MaxText - 1, frame.MaxText} {
		s := noise(rand.New(rand.NewSource(int64(n))), n)
		f := put(t, s)
		if f != lay(uint32(n), s) || len(f) != frame.Ahead+n {
			t.Errorf("%d bytes: %.20q, %d", n, f, len(f))
		}
		wantGet(t, strconv.Itoa(n)+" bytes", f, s, len(f))
	}
}

// P5.2
func TestPutOfTooMuch(t *testing.T) {
	for _, n := range []int{frame.MaxText + 1, frame.MaxText + 2, 2 * frame.MaxText} {
		if f, e := frame.Put(strings.Repeat("x", n)); f != "" || e != api.ErrLong {
			t.Errorf("%d bytes: %d bytes, %d", n, len(f), e)
		}
	}
	if frame.MaxText != 1<<18 || frame.Ahead != 12 {
		t.Error(frame.MaxText, frame.Ahead)
	}
}

// P5.2
func TestGet(t *testing.T) {
	for _, s := range texts() {
		f := put(t, s)
		wantGet(t, "a frame", f, s, len(f))
		for _, behind := range []string{"\x00", "x", s, f, f[:len(f)-1], strings.Repeat("\xff", 50)} {
			wantGet(t, "a frame with more behind", f+behind, s, len(f))
		}
		wantGet(t, "a frame with a byte ahead", "\x00"+f, "", 0)
	}
}

// P5.2
func TestGetOfWhatIsCutOff(t *testing.T) {
	for _, s := range texts() {
		f := put(t, s)
		for i := range f[:min(len(f), 200)] {
			wantGet(t, "the beginning of a frame", f[:i], "", 0)
			wantGet(t, "the end of a frame", f[i+1:], "", 0)
		}
		wantGet(t, "all but the last byte", f[:len(f)-1], "", 0)
	}
	for n := range frame.Ahead {
		wantGet(t, "few bytes", strings.Repeat("\x00", n), "", 0)
		wantGet(t, "few bytes", strings.Repeat("\xff", n), "", 0)
	}
	wantGet(t, "bytes 00", strings.Repeat("\x00", 100), "", 0)
	wantGet(t, "bytes ff", strings.Repeat("\xff", 100), "", 0)
}

// P5.2: lengths whose sums are right, but of which there are no texts.
func TestGetOfWrongLengths(t *testing.T) {
	wantGet(t, "one byte more than there is", lay(4, "abc"), "", 0)
	wantGet(t, "one byte less than is summed", lay(2, "abc"), "", 0)
	wantGet(t, "a text of none, and bytes", lay(0, "abc"), "", 0)
	for _, size := range []uint32{frame.MaxText, frame.MaxText + 1, 1 << 24, 1<<31 - 1, 1 << 31, 1<<31 + 3, 1<<32 - frame.Ahead, 1<<32 - 1} {
		wantGet(t, "a length of "+strconv.FormatUint(uint64(size), 10), lay(size, "abc"), "", 0)
		wantAll(t, "a length of "+strconv.FormatUint(uint64(size), 10), lay(size, "abc"), 0)
	}
	for _, n := range []int{frame.MaxText + 1, 2 * frame.MaxText} {
		s := strings.Repeat("x", n)
		wantGet(t, "more than MaxText", lay(uint32(n), s), "", 0)
		wantAll(t, "more than MaxText", lay(uint32(n), s), 0)
	}
}

// P5.2
func TestAll(t *testing.T) {
	one, none, three := put(t, "one"), put(t, ""), put(t, "three")
	wantAll(t, "no bytes", "", 0)
	wantAll(t, "no frame", "no frame at all", 0)
	wantAll(t, "a frame", one, len(one), "one")
	wantAll(t, "a frame of no text", none, len(none), "")
	wantAll(t, "frames", one+none+three+none, len(one+none+three+none), "one", "", "three", "")
	wantAll(t, "frames that are one", one+one+one, 3*len(one), "one", "one", "one")
	wantAll(t, "frames and more", one+three+"tail", len(one+three), "one", "three")
	wantAll(t, "a gap", one+"\x00"+three, len(one), "one")
	wantAll(t, "a byte ahead", "\x00"+one, 0)
	wantAll(t, "a torn frame between", one+three[:len(three)-1]+one, len(one), "one")
	wantAll(t, "a text that is wrong between", one+lay(5, "tree!")[:frame.Ahead]+"three"+one, len(one), "one")
}

// P5.2
func TestAllOfATornFrame(t *testing.T) {
	one, three := put(t, "one"), put(t, "three")
	for i := range three {
		wantAll(t, "a frame and a torn one", one+three[:i], len(one), "one")
		wantAll(t, "a torn one", three[:i], 0)
	}
}

// P5.2
func TestAllOfAFrameInAFrame(t *testing.T) {
	one, two := put(t, "one"), put(t, "two")
	outer := put(t, one+two)
	wantAll(t, "a frame of frames", outer, len(outer), one+two)
	wantAll(t, "a frame of frames, and one", outer+one, len(outer+one), one+two, "one")
	wantAll(t, "what is in a frame of frames", outer[frame.Ahead:], len(one+two), "one", "two")
	wantAll(t, "a frame of frames, cut off", outer[:len(outer)-1], 0)
	inner := put(t, outer)
	wantAll(t, "a frame of a frame of frames", inner, len(inner), outer)
}

// P5.2
func TestAllOfManyFrames(t *testing.T) {
	r := rand.New(rand.NewSource(4))
	var laid strings.Builder
	var all []string
	for range 20000 {
		s := noise(r, r.Intn(30))
		all = append(all, s)
		laid.WriteString(put(t, s))
	}
	wantAll(t, "many frames", laid.String()+"x", laid.Len(), all...)
}

// P5.2: no answer hangs on an earlier one, and a list that is told is the caller's own.
func TestAllAnswersNewLists(t *testing.T) {
	b := put(t, "one") + put(t, "two")
	first, _ := frame.All(b)
	first[0] = "turned"
	_ = append(first[:1], "turned")
	wantAll(t, "frames, again", b, len(b), "one", "two")
}

// turn turns the bits of a pattern, from one of the bits on; each byte's lowest bit comes first.
func turn(b string, from int, pattern uint32) string {
	turned := []byte(b)
	for i := range 32 {
		if pattern>>i&1 == 1 {
			turned[(from+i)/8] ^= 1 << ((from + i) % 8)
		}
	}
	return string(turned)
}

// wantNone holds a frame in which bits were turned to be none, with or without more behind it, and behind another one.
func wantNone(t *testing.T, f string, from int, pattern uint32) {
	t.Helper()
	bad := turn(f, from, pattern)
	if s, n := frame.Get(bad); s != "" || n != 0 {
		t.Fatalf("%.40q, at bit %d, turned by %08x: %.40q, %d", f, from, pattern, s, n)
	}
	if s, n := frame.Get(bad + f); s != "" || n != 0 {
		t.Fatalf("%.40q and more, at bit %d, turned by %08x: %.40q, %d", f, from, pattern, s, n)
	}
	if all, n := frame.All(f + bad + f); len(all) != 1 || n != len(f) {
		t.Fatalf("%.40q behind itself, at bit %d, turned by %08x: %.40q, %d", f, from, pattern, all, n)
	}
}

// P5.3: in the length, in either sum, and in the text.
func TestBitsTurnedOneByOne(t *testing.T) {
	for _, s := range texts() {
		f := put(t, s)
		for bit := range 8 * min(len(f), 100) {
			wantNone(t, f, bit, 1)
		}
		wantNone(t, f, 8*len(f)-1, 1)
	}
}

// P5.3: in the length, in either sum, and in the text: from one bit on, up to 32 of them side by side, all of them or some.
func TestBitsTurnedSideBySide(t *testing.T) {
	r := rand.New(rand.NewSource(5))
	for _, n := range []int{0, 1, 2, 3, 4, 5, 8, 31, 32, 33, 200} {
		f := put(t, noise(r, n))
		for _, part := range [][2]int{{0, 4}, {4, 8}, {8, 12}, {12, len(f)}} {
			for from := 8 * part[0]; from < 8*part[1]; from++ {
				for side := 1; side <= min(32, 8*part[1]-from); side++ {
					all := ^uint32(0) >> (32 - side)
					wantNone(t, f, from, all)
					wantNone(t, f, from, 1|1<<(side-1))
					wantNone(t, f, from, 1|1<<(side-1)|r.Uint32()&all)
				}
			}
		}
	}
}

// P5.3
func TestBitsTurnedInALongText(t *testing.T) {
	r := rand.New(rand.NewSource(6))
	f := put(t, noise(r, frame.MaxText))
	for range 30 {
		from := 8*frame.Ahead + r.Intn(8*frame.MaxText-31)
		wantNone(t, f, from, 1|r.Uint32())
	}
}

// P5.3: a length of which bits were turned such that another whole text is there isn't taken.
func TestALengthThatSaysAnotherText(t *testing.T) {
	f := put(t, "abcabc")
	short := four(3) + f[4:8] + four(castagnoli("abc")) + f[12:]
	wantGet(t, "a length of 3 with the sum of the length 6", short, "", 0)
	wantAll(t, "a length of 3 with the sum of the length 6", short, 0)
	wantGet(t, "a length of 3 with a sum of its own", lay(3, "abc")+"abc", "abc", frame.Ahead+3)
}
