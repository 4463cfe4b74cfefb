package base_test

import (
	"fmt"
	"testing"

	"mailbag/api"
	"mailbag/base"
	"mailbag/disk"
	"mailbag/frame"
	"mailbag/rec"
)

// some is a state behind commit 2, with commits 3 and 4.
func some() rec.State {
	return rec.State{Seq: 2, Base: []api.Write{put("a", "x")}, Commits: []api.Commit{commit(3, 5, put("b", "y")), commit(4, 8, gone("a"))}}
}

// wantError holds Open to an error, and no Base beside it.
func wantError(t *testing.T, what string, d *disk.Disk, e api.Errno) {
	t.Helper()
	if b, got := base.Open(d); b != nil || got != e {
		t.Errorf("%s: %v, %d, not %d", what, b, got, e)
	}
}

// P12.1
func TestOpenNothing(t *testing.T) {
	for what, d := range map[string]*disk.Disk{"room": disk.New(100), "no room": disk.New(0), "zero": {}, "of a nil disk's": (*disk.Disk)(nil).Crash(nil)} {
		b := open(t, d)
		wantIs(t, what, b, 0, 0, 0)
		if b.Store().Versions() != 0 || len(d.Names()) != 0 {
			t.Error(what, told(b), d.Names())
		}
	}
	wantError(t, "nil", nil, api.ErrArg)
}

// P12.1: a state that isn't written to its end is removed.
func TestOpenNext(t *testing.T) {
	for what, next := range map[string]string{"none of it": "", "half": "half", "whole": stateOf(t, rec.State{Seq: 9})} {
		d := with(t, "next", next, "log", logOf(t, commit(1, 3, put("a", ""))))
		wantIs(t, what, open(t, d), 0, 1, 3)
		wantFile(t, d, "next", "none")
		d = with(t, "next", next, "state", stateOf(t, some()))
		wantIs(t, what, open(t, d), 2, 4, 8)
		wantFile(t, d, "next", "none")
		d = with(t, "next", next, "state", "bad")
		wantError(t, what, d, api.ErrBad)
		wantFile(t, d, "next", "none")
	}
}

// P12.1: other files are left as they are, and are nothing.
func TestOpenOtherFiles(t *testing.T) {
	d := with(t, "Log", "x", "log2", "y", "states", "z", "nex", "w")
	wantIs(t, "other files", open(t, d), 0, 0, 0)
	if fmt.Sprint(d.Names()) != "[Log log2 nex states]" {
		t.Error(d.Names())
	}
}

// P12.1: a state, and no log.
func TestOpenState(t *testing.T) {
	for _, c := range []struct {
		s             rec.State
		low, last, at int
	}{
		{rec.State{}, 0, 0, 0},
		{rec.State{Seq: 7, Base: []api.Write{put("a", "x")}}, 7, 7, 0},
		{some(), 2, 4, 8},
		{rec.State{Commits: []api.Commit{commit(1, 0)}}, 0, 1, 0},
		{rec.State{Seq: api.MaxSeq}, api.MaxSeq, api.MaxSeq, 0},
	} {
		d := with(t, "state", stateOf(t, c.s))
		on := files(d)
		b := open(t, d)
		wantIs(t, fmt.Sprint(c.s), b, c.low, c.last, c.at)
		if got := rec.Of(b.Store()); fmt.Sprint(got) != fmt.Sprint(c.s) || files(d) != on {
			t.Errorf("%v, not %v", got, c.s)
		}
	}
}

// P12.1: a log, over a state or none.
func TestOpenLog(t *testing.T) {
	state := stateOf(t, some())
	for what, c := range map[string]struct {
		state         string
		log           []api.Commit
		low, last, at int
	}{
		"an empty one":           {"", nil, 0, 0, 0},
		"one":                    {"", []api.Commit{commit(1, 3, put("c", ""))}, 0, 1, 3},
		"some":                   {"", []api.Commit{commit(1, 3, put("c", "")), commit(2, 3), commit(3, 9, gone("c"))}, 0, 3, 9},
		"an empty one, a state":  {state, nil, 2, 4, 8},
		"behind a state":         {state, []api.Commit{commit(5, 8, put("c", "")), commit(6, 11)}, 2, 6, 11},
		"all passed over":        {state, []api.Commit{commit(1, 0), commit(2, 0), commit(3, 5), commit(4, 8)}, 2, 4, 8},
		"other ones passed over": {state, []api.Commit{commit(4, 900, put("b", "passed over"))}, 2, 4, 8},
		"the first passed over":  {state, []api.Commit{commit(3, 5), commit(4, 8), commit(5, 9, put("c", ""))}, 2, 5, 9},
		"one twice":              {state, []api.Commit{commit(5, 9, put("c", "")), commit(5, 10, put("c", "passed over"))}, 2, 5, 9},
		"one of before between":  {state, []api.Commit{commit(5, 9, put("c", "")), commit(1, 99), commit(6, 9)}, 2, 6, 9},
		"no commits are kept":    {stateOf(t, rec.State{Seq: 4}), []api.Commit{commit(3, 50), commit(4, 60)}, 4, 4, 0},
		"none ahead is kept":     {stateOf(t, rec.State{Seq: 4}), []api.Commit{commit(4, 60), commit(5, 1)}, 4, 5, 1},
	} {
		d := with(t, "log", logOf(t, c.log...))
		if c.state != "" {
			d = with(t, "log", logOf(t, c.log...), "state", c.state)
		}
		on := files(d)
		b := open(t, d)
		wantIs(t, what, b, c.low, c.last, c.at)
		if val, is := b.Store().Get("c", 5); is && val != "" {
			t.Error(what, val)
		}
		if files(d) != on {
			t.Error(what, files(d))
		}
	}
}

// P12.1: a log that isn't whole: what is whole is read, and the rest cut away, so that the next commit stands directly behind it.
func TestOpenTorn(t *testing.T) {
	first, second, third := commit(1, 3, put("a", "x")), commit(2, 4, put("b", "y")), commit(3, 5, put("c", "z"))
	one, two := logOf(t, first), logOf(t, first, second)
	for i := range len(two) + 1 {
		whole, last := "", 0
		if i >= len(one) {
			whole, last = one, 1
		}
		if i == len(two) {
			whole, last = two, 2
		}
		for _, behind := range []string{"", "\xff", "half a frame that is none"} {
			d := with(t, "log", two[:i]+behind)
			b := open(t, d)
			if b.Store().Last() != last {
				t.Errorf("%d of %d: %s", i, len(two), told(b))
			}
			wantFile(t, d, "log", whole)
			wantFile(t, d.Crash(nil), "log", whole)
			write(t, b, 9, put("d", ""))
			if again := open(t, d.Crash(nil)); told(again) != told(b) {
				t.Errorf("%d: %s, not %s", i, told(again), told(b))
			}
		}
	}
	d := with(t, "log", one+"\x00"+logOf(t, second, third)) // whole frames behind a fault are cut away, too
	wantIs(t, "behind a fault", open(t, d), 0, 1, 3)
	wantFile(t, d, "log", one)
	long := one + two[:frame.Ahead] + two[len(one)+frame.Ahead:] // a frame's head, and what isn't its text
	d = with(t, "log", long)
	wantIs(t, "another text", open(t, d), 0, 1, 3)
	wantFile(t, d, "log", one)
}

// P12.1: what was kept can't be read.
func TestOpenBad(t *testing.T) {
	text, _ := some().Encode()
	state, c5 := framed(t, text), commit(5, 8, put("c", ""))
	for what, bad := range map[string]string{
		"empty":               "",
		"no frame":            "no state at all",
		"no frame's text":     text,
		"no state":            framed(t, "no state"),
		"an empty text":       framed(t, ""),
		"a commit":            logOf(t, commit(1, 0, put("a", "x"))),
		"one more byte":       state + "\x00",
		"two frames":          state + state,
		"one byte ahead":      "\x00" + state,
		"one byte less":       state[:len(state)-1],
		"half a frame behind": state + state[:20],
		"a byte in its text":  framed(t, text+"\x00"),
		"half a text":         framed(t, text[:len(text)-1]),
	} {
		d := with(t, "state", bad)
		on := files(d)
		wantError(t, "state: "+what, d, api.ErrBad)
		d2 := with(t, "state", bad, "log", logOf(t, commit(1, 0)))
		wantError(t, "state and log: "+what, d2, api.ErrBad)
		if files(d) != on {
			t.Error(what, files(d))
		}
	}
	for i := range state {
		turned := []byte(state)
		turned[i] ^= 0x10
		wantError(t, fmt.Sprint("state, turned at ", i), with(t, "state", string(turned)), api.ErrBad)
	}
	for what, bad := range map[string]string{
		"no commit":              framed(t, "no commit"),
		"an empty text":          framed(t, ""),
		"a state":                state,
		"no commit behind one":   logOf(t, c5) + framed(t, "no commit"),
		"no commit ahead of one": framed(t, "no commit") + logOf(t, c5),
		"no commit, and a tail":  framed(t, "no commit") + "tail",
		"a gap":                  logOf(t, commit(6, 8)),
		"a gap behind one":       logOf(t, c5, commit(7, 8)),
		"a gap behind others":    logOf(t, commit(3, 5), commit(6, 8)),
		"a time below":           logOf(t, commit(5, 7)),
		"a time below another":   logOf(t, c5, commit(6, 9), commit(7, 8)),
		"two in a frame":         framed(t, "\x01\x05\x01\x08\x00\x01\x06\x01\x08\x00"),
		"Seq 0":                  framed(t, "\x00\x00\x00"),
	} {
		d := with(t, "state", state, "log", bad)
		on := files(d)
		wantError(t, "log: "+what, d, api.ErrBad)
		if files(d) != on {
			t.Error(what, files(d))
		}
	}
	wantError(t, "a gap, and no state", with(t, "log", logOf(t, commit(2, 0))), api.ErrBad)
	wantError(t, "behind the last number", with(t, "state", stateOf(t, rec.State{Seq: api.MaxSeq}), "log", framed(t, "\x06\x01\x00\x00\x00\x00\x01\x00\x00")), api.ErrBad)
}

// P12.1: the disk's errors end all: the power fails at each turn, and behind them there is no other one.
func TestOpenTurns(t *testing.T) {
	log := logOf(t, commit(5, 8))
	for what, c := range map[string]struct {
		d     *disk.Disk
		turns int // Remove; Truncate, if there is a tail; Sync, if there is a log
	}{
		"nothing":           {disk.New(100), 1},
		"next":              {with(t, "next", "x"), 1},
		"a state":           {with(t, "state", stateOf(t, some())), 1},
		"a whole log":       {with(t, "state", stateOf(t, some()), "log", log), 2},
		"an empty log":      {with(t, "log", ""), 2},
		"a log with a tail": {with(t, "next", "x", "state", stateOf(t, some()), "log", log+"tail"), 3},
	} {
		for turns := range c.turns + 1 {
			d := c.d.Clone()
			d.Fall(turns)
			if turns < c.turns {
				wantError(t, fmt.Sprint(what, ", ", turns), d, api.ErrDown)
				wantError(t, fmt.Sprint(what, ", without power"), d, api.ErrDown)
				d = d.Crash(nil)
			}
			b := open(t, d)
			if turns == c.turns && (d.Down() || d.Sync("log") != api.ErrDown) {
				t.Error(what, "more turns")
			}
			if other := open(t, c.d.Clone()); told(b) != told(other) {
				t.Errorf("%s: %s, not %s", what, told(b), told(other))
			}
		}
	}
}

// P12.1, P12.4: what was read is safe from then on.
func TestOpenMakesSafe(t *testing.T) {
	for _, tail := range []string{"", "tail"} {
		d := disk.New(1000)
		log := logOf(t, commit(1, 3, put("a", "x")))
		want(t, "Append", d.Append("log", log+tail), api.OK)
		wantIs(t, "read", open(t, d), 0, 1, 3)
		wantFile(t, d.Crash(nil), "log", log)
		wantIs(t, "behind a loss of power", open(t, d.Crash(nil)), 0, 1, 3)
	}
}
