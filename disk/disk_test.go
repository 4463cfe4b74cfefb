package disk_test

import (
	"math"
	"math/rand"
	"slices"
	"strings"
	"testing"

	"mailbag/api"
	"mailbag/disk"
)

// turns are all turns, each such that a disk with power, that has a file a of three bytes or more, answers OK.
func turns() map[string]func(d *disk.Disk) api.Errno {
	return map[string]func(d *disk.Disk) api.Errno{
		"Append":   func(d *disk.Disk) api.Errno { return d.Append("a", "") },
		"Sync":     func(d *disk.Disk) api.Errno { return d.Sync("a") },
		"Rename":   func(d *disk.Disk) api.Errno { return d.Rename("a", "a") },
		"Remove":   func(d *disk.Disk) api.Errno { return d.Remove("a") },
		"Truncate": func(d *disk.Disk) api.Errno { return d.Truncate("a", 2) },
	}
}

// wrongTurns are turns that answer errors on a disk of at most 100 bytes that has no file b, and the errors.
func wrongTurns() map[api.Errno][]func(d *disk.Disk) api.Errno {
	long := strings.Repeat("n", api.MaxName+1)
	return map[api.Errno][]func(d *disk.Disk) api.Errno{
		api.ErrArg: {
			func(d *disk.Disk) api.Errno { return d.Append("", "x") },
			func(d *disk.Disk) api.Errno { return d.Append(long, "") },
			func(d *disk.Disk) api.Errno { return d.Append("", strings.Repeat("x", 101)) }, // named ahead of ErrFull
			func(d *disk.Disk) api.Errno { return d.Rename("a", "") },
			func(d *disk.Disk) api.Errno { return d.Rename("a", long) },
			func(d *disk.Disk) api.Errno { return d.Rename("b", "") }, // named ahead of ErrNone
			func(d *disk.Disk) api.Errno { return d.Rename("", "") },
			func(d *disk.Disk) api.Errno { return d.Rename(long, long) },
			func(d *disk.Disk) api.Errno { return d.Truncate("a", 4) },
			func(d *disk.Disk) api.Errno { return d.Truncate("a", -1) },
			func(d *disk.Disk) api.Errno { return d.Truncate("a", math.MaxInt) },
			func(d *disk.Disk) api.Errno { return d.Truncate("a", math.MinInt) },
		},
		api.ErrNone: {
			func(d *disk.Disk) api.Errno { return d.Sync("b") },
			func(d *disk.Disk) api.Errno { return d.Sync("") },
			func(d *disk.Disk) api.Errno { return d.Sync(long) },
			func(d *disk.Disk) api.Errno { return d.Rename("b", "c") },
			func(d *disk.Disk) api.Errno { return d.Rename("b", "a") },
			func(d *disk.Disk) api.Errno { return d.Rename("b", "b") },
			func(d *disk.Disk) api.Errno { return d.Rename("", "c") },
			func(d *disk.Disk) api.Errno { return d.Remove("b") },
			func(d *disk.Disk) api.Errno { return d.Remove("") },
			func(d *disk.Disk) api.Errno { return d.Truncate("b", 0) },
			func(d *disk.Disk) api.Errno { return d.Truncate("b", -1) }, // named ahead of ErrArg
			func(d *disk.Disk) api.Errno { return d.Truncate("", 0) },
		},
		api.ErrFull: {
			func(d *disk.Disk) api.Errno { return d.Append("a", strings.Repeat("x", 101)) },
			func(d *disk.Disk) api.Errno { return d.Append("b", strings.Repeat("x", 101)) },
		},
	}
}

// want holds an answer to be such an error.
func want(t *testing.T, what string, got, e api.Errno) {
	t.Helper()
	if got != e {
		t.Errorf("%s: %d, not %d", what, got, e)
	}
}

// wantFiles holds a disk with power to have such files, names and bytes in turn, and no others, and as much room as these leave of the room.
func wantFiles(t *testing.T, d *disk.Disk, room int, files ...string) {
	t.Helper()
	var names []string
	for i := 0; i < len(files); i += 2 {
		names = append(names, files[i])
		room -= len(files[i+1])
		if s, e := d.Read(files[i]); s != files[i+1] || e != api.OK {
			t.Errorf("%q: %q, %d, not %q", files[i], s, e, files[i+1])
		}
	}
	if got := d.Names(); !slices.Equal(got, names) {
		t.Errorf("names %q, not %q", got, names)
	}
	if got := d.Room(); got != room {
		t.Errorf("room %d, not %d", got, room)
	}
}

// wantCrash holds the disk behind a loss of power to have such files, all safe, and as much room in all.
func wantCrash(t *testing.T, d *disk.Disk, keep []int, room int, files ...string) {
	t.Helper()
	c := d.Crash(keep)
	if c.Down() {
		t.Errorf("Crash of %v has no power", keep)
	}
	wantFiles(t, c, room, files...)
	wantFiles(t, c.Crash(nil), room, files...)
}

// lay lays files as they are appended, of which the bytes ahead of a | are safe.
func lay(t *testing.T, room int, files ...string) *disk.Disk {
	t.Helper()
	d := disk.New(room)
	for i := 0; i < len(files); i += 2 {
		safe, other, _ := strings.Cut(files[i+1], "|")
		want(t, "Append", d.Append(files[i], safe), api.OK)
		want(t, "Sync", d.Sync(files[i]), api.OK)
		want(t, "Append", d.Append(files[i], other), api.OK)
	}
	return d
}

// P4.1
func TestNew(t *testing.T) {
	for room, free := range map[int]int{
		math.MinInt: 0, -1: 0, 0: 0, 1: 1, 100: 100,
		disk.MaxRoom - 1: 1<<20 - 1, disk.MaxRoom: 1 << 20, disk.MaxRoom + 1: 1 << 20, math.MaxInt: 1 << 20,
	} {
		d := disk.New(room)
		wantFiles(t, d, free)
		if d.Down() {
			t.Errorf("of %d: no power", room)
		}
		want(t, "as much as there is", d.Append("a", strings.Repeat("x", free)), api.OK)
		want(t, "one more", d.Append("b", "x"), api.ErrFull)
	}
}

// P4.1: behind each turn what is free is the room less all files' bytes.
func TestRoom(t *testing.T) {
	d := disk.New(10)
	for i, c := range []struct {
		turn func() api.Errno
		e    api.Errno
		room int
	}{
		{func() api.Errno { return d.Append("a", "123") }, api.OK, 7},
		{func() api.Errno { return d.Append("b", "12") }, api.OK, 5},
		{func() api.Errno { return d.Append("a", "45") }, api.OK, 3},
		{func() api.Errno { return d.Append("c", "") }, api.OK, 3},
		{func() api.Errno { return d.Sync("a") }, api.OK, 3},
		{func() api.Errno { return d.Append("c", "1234") }, api.ErrFull, 3},
		{func() api.Errno { return d.Append("", "1") }, api.ErrArg, 3},
		{func() api.Errno { return d.Rename("a", "d") }, api.OK, 3},
		{func() api.Errno { return d.Rename("d", "d") }, api.OK, 3},
		{func() api.Errno { return d.Truncate("d", 4) }, api.OK, 4},
		{func() api.Errno { return d.Truncate("d", 5) }, api.ErrArg, 4},
		{func() api.Errno { return d.Rename("b", "d") }, api.OK, 8},
		{func() api.Errno { return d.Append("d", "12345678") }, api.OK, 0},
		{func() api.Errno { return d.Remove("c") }, api.OK, 0},
		{func() api.Errno { return d.Remove("c") }, api.ErrNone, 0},
		{func() api.Errno { return d.Truncate("d", 0) }, api.OK, 10},
		{func() api.Errno { return d.Append("d", "1") }, api.OK, 9},
		{func() api.Errno { return d.Remove("d") }, api.OK, 10},
	} {
		if e := c.turn(); e != c.e || d.Room() != c.room {
			t.Errorf("turn %d: %d, %d free", i, e, d.Room())
		}
	}
}

// P4.1: the power fails at the turn behind so many, and not ahead of that.
func TestFall(t *testing.T) {
	for _, fall := range []int{math.MinInt, -2, -1, 0, 1, 2, 5} {
		for name, turn := range turns() {
			d := lay(t, 10, "a", "abc|de")
			d.Fall(fall)
			for range max(fall, 0) {
				want(t, "Append", d.Append("z", ""), api.OK)
			}
			if d.Down() || len(d.Names()) == 0 {
				t.Errorf("Fall of %d: down ahead of the turn", fall)
			}
			if e := turn(d); e != api.ErrDown || !d.Down() {
				t.Errorf("Fall of %d: %s tells %d, Down %t", fall, name, e, d.Down())
			}
		}
	}
}

// P4.1: a great number of turns is none too many.
func TestFallOfMany(t *testing.T) {
	d := disk.New(1)
	d.Fall(math.MaxInt)
	for range 1000 {
		want(t, "Append", d.Append("a", ""), api.OK)
	}
	if d.Down() {
		t.Error("down")
	}
}

// P4.1: each turn counts as one, and what is none doesn't count.
func TestFallCounts(t *testing.T) {
	for name, turn := range turns() {
		d := lay(t, 10, "a", "abc|de")
		d.Fall(1)
		d.Room()
		d.Down()
		d.Names()
		d.Read("a")
		d.Read("b")
		d.Clone()
		d.Crash(nil)
		want(t, name, turn(d), api.OK)
		want(t, name+" again", turn(d), api.ErrDown)
	}
}

// P4.1: turns that answer errors count all the same.
func TestFallCountsErrors(t *testing.T) {
	for e, list := range wrongTurns() {
		for i, turn := range list {
			d := lay(t, 100, "a", "abc")
			d.Fall(2)
			want(t, "first", turn(d), e)
			want(t, "second", turn(d), e)
			if d.Down() {
				t.Errorf("turn %d of error %d: down ahead of time", i, e)
			}
			want(t, "third", d.Sync("a"), api.ErrDown)
		}
	}
}

// P4.1: Fall said again counts anew, whether that is sooner or later.
func TestFallAgain(t *testing.T) {
	for _, first := range []int{-1, 0, 1, 2, 7} {
		for _, second := range []int{-1, 0, 1, 3} {
			d := lay(t, 10, "a", "abc")
			d.Fall(first)
			for range first / 2 {
				want(t, "ahead", d.Sync("a"), api.OK)
			}
			d.Fall(second)
			for range max(second, 0) {
				want(t, "behind", d.Sync("a"), api.OK)
			}
			want(t, "at last", d.Sync("a"), api.ErrDown)
		}
	}
}

// P4.1: without power each turn, and Read, tells ErrDown, whatever else is wrong, and turns nothing.
func TestDown(t *testing.T) {
	d := lay(t, 10, "a", "abc|de", "c", "|xy")
	d.Fall(0)
	list := wrongTurns()[api.ErrArg]
	list = append(list, wrongTurns()[api.ErrNone]...)
	list = append(list, wrongTurns()[api.ErrFull]...)
	for _, turn := range turns() {
		list = append(list, turn)
	}
	for range 2 {
		for i, turn := range list {
			if e := turn(d); e != api.ErrDown || !d.Down() {
				t.Errorf("turn %d: %d, Down %t", i, e, d.Down())
			}
		}
		for _, name := range []string{"a", "b", ""} {
			if s, e := d.Read(name); s != "" || e != api.ErrDown {
				t.Errorf("Read of %q: %q, %d", name, s, e)
			}
		}
		if names := d.Names(); len(names) != 0 || d.Room() != 3 {
			t.Errorf("%q, %d free", names, d.Room())
		}
		wantCrash(t, d, []int{9, 9}, 10, "a", "abcde", "c", "xy")
		wantCrash(t, d, nil, 10, "a", "abc", "c", "")
	}
	d.Fall(5) // a count of turns brings no power back
	want(t, "Sync", d.Sync("a"), api.ErrDown)
}

// P4.2
func TestRead(t *testing.T) {
	d := lay(t, 300, "a", "abc|de", "b", "", "\x00\xff", "\x00\x01\xff|\xfe\r\n", strings.Repeat("n", 40), "n")
	wantFiles(t, d, 300, "\x00\xff", "\x00\x01\xff\xfe\r\n", "a", "abcde", "b", "", strings.Repeat("n", 40), "n")
	for _, name := range []string{"", "A", "ab", "a\x00", "c", strings.Repeat("n", 39), strings.Repeat("n", 41)} {
		if s, e := d.Read(name); s != "" || e != api.ErrNone {
			t.Errorf("%q: %q, %d", name, s, e)
		}
	}
}

// P4.2
func TestAppend(t *testing.T) {
	d := disk.New(6)
	want(t, "of one more than there is", d.Append("a", "1234567"), api.ErrFull)
	wantFiles(t, d, 6)
	want(t, "of none", d.Append("a", ""), api.OK)
	wantFiles(t, d, 6, "a", "")
	want(t, "of some", d.Append("a", "12"), api.OK)
	want(t, "of some behind", d.Append("a", "3"), api.OK)
	want(t, "of another file", d.Append("b", "x"), api.OK)
	wantFiles(t, d, 6, "a", "123", "b", "x")
	want(t, "of one more than is free", d.Append("b", "yzw"), api.ErrFull)
	want(t, "of one more to a third", d.Append("c", "yzw"), api.ErrFull)
	wantFiles(t, d, 6, "a", "123", "b", "x")
	want(t, "of just as many", d.Append("b", "yz"), api.OK)
	want(t, "of none to a full disk", d.Append("a", ""), api.OK)
	want(t, "of none to a file that isn't there", d.Append("c", ""), api.OK)
	want(t, "of one to a full disk", d.Append("a", "4"), api.ErrFull)
	wantFiles(t, d, 6, "a", "123", "b", "xyz", "c", "")
}

// P4.2: names have 1 to 40 bytes, of whatever kind.
func TestNames(t *testing.T) {
	var names []string
	for _, name := range []string{"b", "\x00", "\xff", "a", "a\x00", "aa", "B", "ab", "\u00e9", strings.Repeat("n", 40), strings.Repeat("\u00e9", 20), strings.Repeat("\xff", 40)} {
		names = append(names, name)
		slices.Sort(names)
		d := disk.New(len(names))
		for _, k := range rand.New(rand.NewSource(1)).Perm(len(names)) {
			want(t, names[k], d.Append(names[k], ""), api.OK)
		}
		if got := d.Names(); !slices.Equal(got, names) {
			t.Errorf("%q, not %q", got, names)
		}
		got := d.Names()
		got[0] = "z"
		if d.Names()[0] != names[0] {
			t.Error("names that were handed out are kept")
		}
	}
	d := disk.New(10)
	for _, name := range []string{"", strings.Repeat("n", 41), strings.Repeat("\u00e9", 21), strings.Repeat("n", 1000)} {
		want(t, name, d.Append(name, "x"), api.ErrArg)
	}
	wantFiles(t, d, 10)
}

// P4.2: what is wrong has turned nothing.
func TestWrong(t *testing.T) {
	for e, list := range wrongTurns() {
		for i, turn := range list {
			d := lay(t, 100, "a", "a|bc", "c", "x|y")
			if got := turn(d); got != e {
				t.Errorf("turn %d of error %d: %d", i, e, got)
			}
			wantFiles(t, d, 100, "a", "abc", "c", "xy")
			wantCrash(t, d, nil, 100, "a", "a", "c", "x")
		}
	}
}

// P4.2
func TestSync(t *testing.T) {
	d := lay(t, 20, "a", "|abc", "b", "|xyz")
	want(t, "Sync", d.Sync("a"), api.OK)
	wantCrash(t, d, nil, 20, "a", "abc", "b", "")
	want(t, "Append", d.Append("a", "de"), api.OK)
	wantCrash(t, d, nil, 20, "a", "abc", "b", "")
	want(t, "Sync", d.Sync("a"), api.OK)
	want(t, "Sync again", d.Sync("a"), api.OK)
	wantCrash(t, d, nil, 20, "a", "abcde", "b", "")
	wantFiles(t, d, 20, "a", "abcde", "b", "xyz")
}

// P4.2
func TestRename(t *testing.T) {
	long := strings.Repeat("n", api.MaxName)
	d := lay(t, 20, "a", "abc|de", "b", "xyz|w")
	want(t, "to itself", d.Rename("a", "a"), api.OK)
	wantFiles(t, d, 20, "a", "abcde", "b", "xyzw")
	wantCrash(t, d, nil, 20, "a", "abc", "b", "xyz")
	want(t, "to a new name", d.Rename("a", long), api.OK)
	wantFiles(t, d, 20, "b", "xyzw", long, "abcde")
	wantCrash(t, d, nil, 20, "b", "xyz", long, "abc")
	want(t, "of none now", d.Rename("a", "b"), api.ErrNone)
	want(t, "over a file", d.Rename(long, "b"), api.OK)
	wantFiles(t, d, 20, "b", "abcde")
	wantCrash(t, d, nil, 20, "b", "abc")
	want(t, "Append", d.Append(long, "1"), api.OK)
	want(t, "over a longer file", d.Rename(long, "b"), api.OK)
	wantFiles(t, d, 20, "b", "1")
	wantCrash(t, d, nil, 20, "b", "")
}

// P4.2
func TestRemove(t *testing.T) {
	d := lay(t, 20, "a", "abc|de", "b", "xyz|w")
	want(t, "Remove", d.Remove("a"), api.OK)
	wantFiles(t, d, 20, "b", "xyzw")
	want(t, "Remove again", d.Remove("a"), api.ErrNone)
	want(t, "Append", d.Append("a", "1"), api.OK)
	wantFiles(t, d, 20, "a", "1", "b", "xyzw")
	wantCrash(t, d, nil, 20, "a", "", "b", "xyz")
}

// P4.2: of a file of three safe bytes and two others, cut behind any number, those stay safe that were.
func TestTruncate(t *testing.T) {
	for size, safe := range []string{"", "a", "ab", "abc", "abc", "abc"} {
		d := lay(t, 20, "a", "abc|de")
		want(t, "Truncate", d.Truncate("a", size), api.OK)
		wantFiles(t, d, 20, "a", "abcde"[:size])
		wantCrash(t, d, nil, 20, "a", safe)
		want(t, "by one too many", d.Truncate("a", size+1), api.ErrArg)
		want(t, "by less than none", d.Truncate("a", -1), api.ErrArg)
		want(t, "Append", d.Append("a", "xy"), api.OK)
		wantFiles(t, d, 20, "a", "abcde"[:size]+"xy")
		wantCrash(t, d, nil, 20, "a", safe)
		wantCrash(t, d, []int{1}, 20, "a", ("abcde"[:size] + "xy")[:len(safe)+1])
	}
}

// P4.3
func TestCrash(t *testing.T) {
	for _, fall := range []bool{false, true} {
		d := lay(t, 30, "c", "|uvw", "a", "abc|de", "b", "xyz|", "d", "")
		if fall {
			d.Fall(0)
			want(t, "Sync", d.Sync("c"), api.ErrDown)
		}
		for _, c := range []struct {
			keep    []int
			a, b, c string
		}{
			{nil, "abc", "xyz", ""},
			{[]int{}, "abc", "xyz", ""},
			{[]int{1}, "abcd", "xyz", ""},
			{[]int{0, 0, 1}, "abc", "xyz", "u"},
			{[]int{2, 5, 2, 9, 9, 9}, "abcde", "xyz", "uv"},
			{[]int{3, 1, 3}, "abcde", "xyz", "uvw"},
			{[]int{-1, -5, -1, -1}, "abc", "xyz", ""},
			{[]int{math.MinInt, 0, math.MaxInt}, "abc", "xyz", "uvw"},
			{[]int{math.MaxInt, math.MaxInt, math.MinInt, 0}, "abcde", "xyz", ""},
		} {
			keep := slices.Clone(c.keep)
			wantCrash(t, d, c.keep, 30, "a", c.a, "b", c.b, "c", c.c, "d", "")
			if !slices.Equal(keep, c.keep) {
				t.Errorf("%v turned to %v", keep, c.keep)
			}
		}
		if d.Down() != fall {
			t.Error("Crash turned the disk itself")
		}
	}
}

// P4.3: the disk behind a Crash doesn't fall, and is apart from the one ahead of it.
func TestCrashIsApart(t *testing.T) {
	d := lay(t, 20, "a", "abc|de")
	d.Fall(2)
	c := d.Crash([]int{1})
	for range 10 {
		want(t, "Append", c.Append("a", "x"), api.OK)
	}
	want(t, "Append", c.Append("b", ""), api.OK)
	wantFiles(t, d, 20, "a", "abcde")
	wantCrash(t, d, nil, 20, "a", "abc")
	want(t, "Append", d.Append("a", "123"), api.OK)
	want(t, "Remove", d.Remove("a"), api.OK)
	want(t, "Sync", d.Sync("a"), api.ErrDown)
	wantFiles(t, c, 20, "a", "abcdxxxxxxxxxx", "b", "")
	wantCrash(t, c, nil, 20, "a", "abcd", "b", "")
	c.Fall(0)
	want(t, "Sync", c.Sync("a"), api.ErrDown)
	wantCrash(t, c, nil, 20, "a", "abcd", "b", "")
}

// P4.3: a Clone has the same files, with what is safe of them, room and turns left.
func TestClone(t *testing.T) {
	d := lay(t, 20, "a", "abc|de", "b", "")
	wantFiles(t, d.Clone(), 20, "a", "abcde", "b", "")
	wantCrash(t, d.Clone(), nil, 20, "a", "abc", "b", "")
	d.Fall(2)
	want(t, "Sync", d.Sync("b"), api.OK)
	c := d.Clone()
	for _, x := range []*disk.Disk{d, c} {
		want(t, "Append", x.Append("a", "1"), api.OK)
		if x.Down() || x.Clone().Down() {
			t.Error("down ahead of time")
		}
		want(t, "Append", x.Append("a", "2"), api.ErrDown)
		want(t, "Append to a Clone without power", x.Clone().Append("a", "2"), api.ErrDown)
		if !x.Clone().Down() || x.Clone().Room() != 14 {
			t.Error("a Clone without power")
		}
		wantCrash(t, x.Clone(), []int{9}, 20, "a", "abcde1", "b", "")
	}
}

// P4.3: what is done to a disk or to its Clone behind it isn't done to the other one.
func TestCloneIsApart(t *testing.T) {
	for _, turned := range []int{0, 1} {
		d := lay(t, 20, "a", "abc|de", "b", "x|y", "c", "u|v")
		want(t, "Truncate", d.Truncate("a", 4), api.OK) // leaves place behind the bytes
		two := []*disk.Disk{d, d.Clone()}
		x, o := two[turned], two[1-turned]
		want(t, "Append", x.Append("a", "1"), api.OK)
		want(t, "Append", o.Append("a", "2"), api.OK)
		want(t, "Append", x.Append("d", "3"), api.OK)
		want(t, "Sync", x.Sync("a"), api.OK)
		want(t, "Remove", x.Remove("b"), api.OK)
		want(t, "Rename", x.Rename("c", "e"), api.OK)
		wantFiles(t, x, 20, "a", "abcd1", "d", "3", "e", "uv")
		x.Fall(0)
		want(t, "Sync", x.Sync("a"), api.ErrDown)
		wantFiles(t, o, 20, "a", "abcd2", "b", "xy", "c", "uv")
		wantCrash(t, o, nil, 20, "a", "abc", "b", "x", "c", "u")
		wantCrash(t, x, nil, 20, "a", "abcd1", "d", "", "e", "u")
	}
}

// P4.3
func TestNil(t *testing.T) {
	var d *disk.Disk
	d.Fall(3)
	for name, turn := range turns() {
		want(t, name, turn(d), api.ErrDown)
	}
	for _, list := range wrongTurns() {
		for _, turn := range list {
			want(t, "a wrong turn", turn(d), api.ErrDown)
		}
	}
	if s, e := d.Read("a"); s != "" || e != api.ErrDown {
		t.Errorf("Read: %q, %d", s, e)
	}
	if d.Room() != 0 || !d.Down() || len(d.Names()) != 0 || d.Clone() != nil {
		t.Errorf("%d free, Down %t, %q, Clone %v", d.Room(), d.Down(), d.Names(), d.Clone())
	}
	wantCrash(t, d, nil, disk.MaxRoom)
	wantCrash(t, d, []int{1, 2}, disk.MaxRoom)
}

// A Disk that New didn't make is one without room.
func TestZero(t *testing.T) {
	for name, turn := range turns() {
		var d disk.Disk
		e := api.ErrNone
		if name == "Append" {
			e = api.OK
		}
		want(t, name, turn(&d), e)
		want(t, "of one byte", d.Append("a", "x"), api.ErrFull)
		d.Clone()
		d.Crash(nil)
	}
	d := new(disk.Disk)
	want(t, "Append to a Clone", d.Clone().Append("a", ""), api.OK)
	want(t, "Append to a Crash", d.Crash(nil).Append("a", ""), api.OK)
	want(t, "Append", d.Append("a", ""), api.OK)
	wantFiles(t, d, 0, "a", "")
}
