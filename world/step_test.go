package world_test

import (
	"fmt"
	"math"
	"math/rand"
	"reflect"
	"slices"
	"strings"
	"testing"

	"mailbag/api"
	"mailbag/disk"
	"mailbag/octet"
	"mailbag/wire"
	"mailbag/world"
)

// laid is steps' bytes, as the chapter says them, whether these are right or not.
func laid(list ...world.Step) string {
	b := octet.Num(nil, len(list))
	for _, s := range list {
		for _, n := range []int{int(s.Kind), s.Session, s.N} {
			b = octet.Num(b, n)
		}
		b = octet.Num(octet.Text(b, s.Text), len(s.Keep))
		for _, n := range s.Keep {
			b = octet.Num(b, n)
		}
	}
	return string(b)
}

// same tells whether steps are the same; nil and empty are one.
func same(a, b []world.Step) bool {
	return slices.EqualFunc(a, b, func(x, y world.Step) bool {
		return x.Kind == y.Kind && x.Session == y.Session && x.N == y.N && x.Text == y.Text && slices.Equal(x.Keep, y.Keep)
	})
}

// wantBytes holds steps to have bytes, and these to be the steps' bytes.
func wantBytes(t *testing.T, s string, list ...world.Step) {
	t.Helper()
	got, e := world.Encode(list)
	want(t, "Encode", e, api.OK)
	wantText(t, "Encode", got, s)
	wantSteps(t, s, list...)
}

// wantSteps holds bytes to be those of steps.
func wantSteps(t *testing.T, s string, list ...world.Step) {
	t.Helper()
	back, e := world.Decode(s)
	want(t, "Decode", e, api.OK)
	if !same(back, list) {
		t.Errorf("Decode: %.300v\nnot %.300v", fmt.Sprint(back), fmt.Sprint(list))
	}
}

// wantNoBytes holds steps to have no bytes.
func wantNoBytes(t *testing.T, e api.Errno, list ...world.Step) {
	t.Helper()
	got, is := world.Encode(list)
	want(t, fmt.Sprintf("Encode of %.100v", fmt.Sprint(list)), is, e)
	wantText(t, "beside an error", got, "")
}

// wantNoSteps holds bytes to be those of no steps.
func wantNoSteps(t *testing.T, s string) {
	t.Helper()
	list, e := world.Decode(s)
	want(t, fmt.Sprintf("Decode of %.60q", s), e, api.ErrForm)
	if len(list) != 0 {
		t.Errorf("beside an error: %.100v", fmt.Sprint(list))
	}
	answers, e := world.Run(1000, s)
	want(t, "Run", e, api.ErrForm)
	wantNum(t, "answers", len(answers), 0)
}

// P21.2: the bytes, as they stand.
func TestBytes(t *testing.T) {
	wantBytes(t, "\x00")
	wantBytes(t, "\x01\x01"+"\x01\x01\x00\x00\x00\x00", world.Step{Kind: world.Ask})
	wantBytes(t, "\x01\x01"+"\x01\x02\x00\x02\x01\x2c\x00\x00", world.Step{Kind: world.Tick, N: 300})
	wantBytes(t, "\x01\x02"+"\x01\x01\x01\x0f\x00\x01\x03abc\x00"+"\x01\x07\x00\x00\x00\x01\x03\x00\x01\x05\x03\x10\x00\x00",
		world.Step{Kind: world.Ask, Session: 15, Text: "abc"}, world.Step{Kind: world.Crash, Keep: []int{0, 5, disk.MaxRoom}})
	for i, kind := range []world.Kind{world.Ask, world.Tick, world.Reap, world.Clean, world.Save, world.Fall, world.Crash} {
		wantNum(t, "Kind", int(kind), i+1)
		wantBytes(t, "\x01\x01\x01"+string(rune(i+1))+"\x00\x00\x00\x00", world.Step{Kind: kind})
	}
	wantNum(t, "MaxSteps", world.MaxSteps, 10000)
	wantNum(t, "MaxKeep", world.MaxKeep, 16)
}

// edges are steps that are right, each at an edge.
func edges() []world.Step {
	list := []world.Step{{Kind: world.Ask}, {Kind: world.Crash}}
	for _, session := range []int{1, 15} {
		list = append(list, world.Step{Kind: world.Save, Session: session})
	}
	for _, n := range []int{1, 255, 256, api.MaxTime - 1, api.MaxTime} {
		list = append(list, world.Step{Kind: world.Clean, N: n})
	}
	for _, n := range []int{1, 255, 256, wire.MaxAsk - 1, wire.MaxAsk} {
		list = append(list, world.Step{Kind: world.Fall, Text: strings.Repeat("\x00\xff", n)[:n]})
	}
	for _, n := range []int{1, 15, 16} {
		list = append(list, world.Step{Kind: world.Reap, Keep: slices.Repeat([]int{disk.MaxRoom}, n)}, world.Step{Kind: world.Tick, Keep: make([]int, n)})
	}
	return list
}

// wrongs are steps that aren't right, each for one reason. Their bytes would be those of another step where a number is below nought.
func wrongs() []world.Step {
	var list []world.Step
	for _, kind := range []world.Kind{math.MinInt, -1, 0, world.Crash + 1, 255, 256 + world.Ask, 1<<32 + world.Ask, math.MaxInt} {
		list = append(list, world.Step{Kind: kind})
	}
	for _, session := range []int{math.MinInt, -1, 16, 256, math.MaxInt} {
		list = append(list, world.Step{Kind: world.Ask, Session: session})
	}
	for _, n := range []int{math.MinInt, -1, api.MaxTime + 1, math.MaxInt} {
		list = append(list, world.Step{Kind: world.Tick, N: n})
	}
	for _, n := range []int{wire.MaxAsk + 1, 2 * wire.MaxAsk} {
		list = append(list, world.Step{Kind: world.Ask, Text: strings.Repeat("x", n)})
	}
	for _, n := range []int{world.MaxKeep + 1, 100} {
		list = append(list, world.Step{Kind: world.Crash, Keep: make([]int, n)})
	}
	for _, n := range []int{math.MinInt, -1, disk.MaxRoom + 1, math.MaxInt} {
		list = append(list, world.Step{Kind: world.Crash, Keep: []int{n}}, world.Step{Kind: world.Crash, Keep: append(make([]int, 15), n)})
	}
	return list
}

// P21.2: what is right, at its edges.
func TestEdges(t *testing.T) {
	list := edges()
	for _, s := range list {
		wantBytes(t, laid(s), s)
	}
	wantBytes(t, laid(list...), list...)
}

// P21.2: what isn't right, whatever stands beside it.
func TestWrong(t *testing.T) {
	right := world.Step{Kind: world.Save}
	for _, s := range wrongs() {
		for _, list := range [][]world.Step{{s}, {s, right}, {right, s}, {right, s, right}} {
			wantNoBytes(t, api.ErrArg, list...)
			if s.Kind >= 0 && s.Session >= 0 && s.N >= 0 && (len(s.Keep) == 0 || slices.Min(s.Keep) >= 0) {
				wantNoSteps(t, laid(list...))
			}
		}
	}
}

// P21.2: ErrLong comes ahead of ErrArg, in Encode; in Decode both are ErrForm.
func TestMaxSteps(t *testing.T) {
	for _, n := range []int{world.MaxSteps - 1, world.MaxSteps} {
		list := slices.Repeat([]world.Step{{Kind: world.Save, Keep: []int{1}}}, n)
		wantBytes(t, laid(list...), list...)
		list[n-1].Kind = 0
		wantNoBytes(t, api.ErrArg, list...)
		wantNoSteps(t, laid(list...))
	}
	for _, n := range []int{world.MaxSteps + 1, 3 * world.MaxSteps} {
		list := slices.Repeat([]world.Step{{Kind: world.Save}}, n)
		wantNoBytes(t, api.ErrLong, list...)
		wantNoSteps(t, laid(list...))
		list[0].Kind = 0
		wantNoBytes(t, api.ErrLong, list...)
	}
}

// P21.2: bytes that are cut off, or have more behind them, or stand for a number otherwise than layer 1 lays it.
func TestNoSteps(t *testing.T) {
	list := []world.Step{asking(3, begin), {Kind: world.Tick, N: 5}, {Kind: world.Crash, Keep: []int{1, 300}}}
	s := laid(list...)
	for i := range len(s) {
		wantNoSteps(t, s[:i])
		wantNoSteps(t, s[i+1:])
	}
	wantNoSteps(t, s+"\x00")
	wantNoSteps(t, s+s)
	wantNoSteps(t, "\x00\x00")
	wantNoSteps(t, "\x01\x00")
	wantNoSteps(t, "\x02\x00\x01"+"\x01\x05\x00\x00\x00\x00")
	wantNoSteps(t, "\x01\x01"+"\x02\x00\x05\x00\x00\x00\x00")
	wantNoSteps(t, "\x01\x01"+"\x01\x05\x01\x00\x00\x00\x00")
	for _, s := range []string{"\x01\xff", "\x02\x27\x10", "\x02\x27\x11", "\x08\x7f\xff\xff\xff\xff\xff\xff\xff", "\x08\xff\xff\xff\xff\xff\xff\xff\xff"} {
		wantNoSteps(t, s)
		wantNoSteps(t, s+"\x01\x05\x00\x00\x00\x00")
		wantNoSteps(t, "\x01\x01\x01\x05\x00\x00\x00"+s) // as many numbers to keep
		wantNoSteps(t, "\x01\x01\x01\x05\x00\x00"+s)     // as long a text
	}
}

// some is a step at random.
func some(r *rand.Rand) world.Step {
	s := world.Step{Kind: world.Kind(1 + r.Intn(7)), Session: r.Intn(16), N: r.Intn(1 << r.Intn(41)), Text: strings.Repeat("x", r.Intn(5))}
	for range r.Intn(17) * r.Intn(2) {
		s.Keep = append(s.Keep, r.Intn(1+1<<r.Intn(21)))
	}
	return s
}

// P21.2: steps come back from their bytes, and bytes that are turned are the bytes of what they are read as, or of nothing.
func TestThereAndBack(t *testing.T) {
	read := 0
	for seed := range int64(3000) {
		r := rand.New(rand.NewSource(seed))
		list := make([]world.Step, r.Intn(6))
		for i := range list {
			list[i] = some(r)
		}
		s := laid(list...)
		wantBytes(t, s, list...)
		b := []byte(s)
		for range 1 + r.Intn(3) {
			b[r.Intn(len(b))] = byte(r.Intn(1 << (1 + r.Intn(8))))
		}
		turned, e := world.Decode(string(b))
		if e == api.OK {
			read++
			wantBytes(t, string(b), turned...)
		} else {
			wantNoSteps(t, string(b))
		}
	}
	if read < 100 {
		t.Error("few were read:", read)
	}
}

// Rule 4: what is handed in stays as it is, and answers share nothing.
func TestStepsStay(t *testing.T) {
	list, is := edges(), edges()
	s, e := world.Encode(list)
	want(t, "Encode", e, api.OK)
	if !reflect.DeepEqual(list, is) {
		t.Error("Encode turned the steps")
	}
	one, e := world.Decode(s)
	want(t, "Decode", e, api.OK)
	for i := range one {
		for k := range one[i].Keep {
			one[i].Keep[k] = -1
		}
		one[i].Keep = append(one[i].Keep, -2)
		for k := range one {
			if n := len(is[k].Keep); k > i && !slices.Equal(one[k].Keep[:n], is[k].Keep) {
				t.Errorf("step %d shares with %d", i, k)
			}
		}
	}
	wantSteps(t, s, is...)
}

// Rule 4: nil and empty are one.
func TestEmpty(t *testing.T) {
	for _, list := range [][]world.Step{nil, {}} {
		wantBytes(t, "\x00", list...)
	}
	wantBytes(t, "\x01\x01\x01\x07\x00\x00\x00\x00", world.Step{Kind: world.Crash, Keep: []int{}})
}
