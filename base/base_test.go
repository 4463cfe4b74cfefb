package base_test

import (
	"fmt"
	"math"
	"strings"
	"testing"

	"mailbag/api"
	"mailbag/base"
	"mailbag/disk"
	"mailbag/frame"
	"mailbag/rec"
	"mailbag/store"
)

// put and gone are writes, in short.
func put(key, val string) api.Write { return api.Write{Key: key, Val: val} }

func gone(key string) api.Write { return api.Write{Key: key, Gone: true} }

// puts is so many writes of keys that rise, with such a value.
func puts(n int, val string) []api.Write {
	list := make([]api.Write, n)
	for i := range list {
		list[i] = put(fmt.Sprintf("%06d", i), val)
	}
	return list
}

// commit is a commit, in short.
func commit(seq, at int, list ...api.Write) api.Commit {
	return api.Commit{Seq: seq, At: at, Writes: list}
}

// want holds an answer to be such an error.
func want(t *testing.T, what string, got, e api.Errno) {
	t.Helper()
	if got != e {
		t.Errorf("%s: %d, not %d", what, got, e)
	}
}

// framed is texts as frames, one behind the other.
func framed(t *testing.T, texts ...string) string {
	t.Helper()
	var b strings.Builder
	for _, text := range texts {
		f, e := frame.Put(text)
		want(t, "frame", e, api.OK)
		b.WriteString(f)
	}
	return b.String()
}

// logOf is the bytes of a log of commits.
func logOf(t *testing.T, list ...api.Commit) string {
	t.Helper()
	var texts []string
	for _, c := range list {
		text, e := rec.Commit(c)
		want(t, "commit", e, api.OK)
		texts = append(texts, text)
	}
	return framed(t, texts...)
}

// stateOf is the bytes of a file of a state.
func stateOf(t *testing.T, s rec.State) string {
	t.Helper()
	text, e := s.Encode()
	want(t, "state", e, api.OK)
	return framed(t, text)
}

// with is a disk of a lot of room on which files are safe: each name, and its bytes.
func with(t *testing.T, files ...string) *disk.Disk {
	t.Helper()
	d := disk.New(disk.MaxRoom)
	for i := 0; i < len(files); i += 2 {
		want(t, "Append", d.Append(files[i], files[i+1]), api.OK)
		want(t, "Sync", d.Sync(files[i]), api.OK)
	}
	return d
}

// open is what a disk keeps.
func open(t *testing.T, d *disk.Disk) *base.Base {
	t.Helper()
	b, e := base.Open(d)
	if e != api.OK || b == nil {
		t.Fatalf("Open: %v, %d", b, e)
	}
	return b
}

// write commits writes behind the last commit.
func write(t *testing.T, b *base.Base, now int, list ...api.Write) {
	t.Helper()
	last := b.Store().Last()
	if n, e := b.Commit(list, last, now); n != last+1 || e != api.OK {
		t.Fatalf("Commit behind %d: %d, %d", last, n, e)
	}
}

// files is all that a disk has, as text.
func files(d *disk.Disk) string {
	var b strings.Builder
	for _, name := range d.Names() {
		text, e := d.Read(name)
		fmt.Fprintf(&b, "%s: %x %d\n", name, text, e)
	}
	return b.String()
}

// told is all that a base answers, as text.
func told(b *base.Base) string { return toldOf(b.Store(), b.At()) }

// toldOf is all that a store answers, and a time, as text.
func toldOf(s *store.Store, at int) string {
	var text strings.Builder
	fmt.Fprintln(&text, s.Low(), s.Last(), s.Versions(), at)
	for seq := s.Low(); seq <= s.Last(); seq++ {
		list, e := s.Since(seq)
		fmt.Fprintln(&text, s.Base(seq), list, e)
	}
	return text.String()
}

// wantIs holds a base to such a Low, Last and At.
func wantIs(t *testing.T, what string, b *base.Base, low, last, at int) {
	t.Helper()
	if s := b.Store(); s.Low() != low || s.Last() != last || b.At() != at {
		t.Errorf("%s: from %d to %d, at %d, not %d to %d, at %d", what, s.Low(), s.Last(), b.At(), low, last, at)
	}
}

// wantFile holds a file to such bytes; none of it: "none".
func wantFile(t *testing.T, d *disk.Disk, name, want string) {
	t.Helper()
	got, e := d.Read(name)
	if e != api.OK {
		got = "none"
	}
	if got != want {
		t.Errorf("%s: %x, not %x", name, got, want)
	}
}

// P12.2
func TestCommit(t *testing.T) {
	d := disk.New(10000)
	b := open(t, d)
	list := [][]api.Write{{put("a", "x")}, {put("a", "y"), gone("b")}, {gone("a"), put("c", "")}}
	var commits []api.Commit
	for i, w := range list {
		n, e := b.Commit(w, i, 10*i)
		if n != i+1 || e != api.OK {
			t.Fatal(n, e)
		}
		commits = append(commits, commit(n, 10*i, w...))
		wantIs(t, "behind a commit", b, 0, n, 10*i)
		wantFile(t, d, "log", logOf(t, commits...))
		wantFile(t, d.Crash(nil), "log", logOf(t, commits...)) // it is safe
	}
	got, e := b.Store().Since(0)
	if e != api.OK || fmt.Sprint(got) != fmt.Sprint(commits) {
		t.Error(got, e)
	}
	if names := d.Names(); len(names) != 1 {
		t.Error(names)
	}
	wantIs(t, "behind a loss of power", open(t, d.Crash(nil)), 0, 3, 20)
}

// P12.2: of two that began behind one commit, and write one key, one succeeds.
func TestCommitWritten(t *testing.T) {
	d := disk.New(10000)
	b := open(t, d)
	write(t, b, 0, put("a", "1"), put("b", "1"))
	write(t, b, 0, put("a", "2"), gone("c"))
	ahead, on := told(b), files(d)
	for _, c := range []struct {
		list []api.Write
		snap int
		e    api.Errno
	}{
		{[]api.Write{put("a", "")}, 0, api.ErrWritten},
		{[]api.Write{put("a", "")}, 1, api.ErrWritten},
		{[]api.Write{gone("a")}, 1, api.ErrWritten},
		{[]api.Write{put("c", "")}, 1, api.ErrWritten},
		{[]api.Write{put("b", "")}, 0, api.ErrWritten},
		{[]api.Write{put("b", ""), put("d", ""), put("e", "")}, 0, api.ErrWritten},
		{[]api.Write{put("a", "2")}, 2, api.OK},
		{[]api.Write{put("b", "")}, 1, api.OK},
		{[]api.Write{put("d", "")}, 0, api.OK},
	} {
		b := open(t, d.Clone())
		n, e := b.Commit(c.list, c.snap, 0)
		if want(t, fmt.Sprint(c.list, " behind ", c.snap), e, c.e); e == api.OK && n != 3 || e != api.OK && (n != 0 || told(b) != ahead) {
			t.Error(n, told(b))
		}
	}
	if n, e := b.Commit([]api.Write{gone("a")}, 1, 0); n != 0 || e != api.ErrWritten || told(b) != ahead || files(d) != on {
		t.Error(n, e, told(b), files(d))
	}
}

// P12.2: of no writes there is no commit, and no turn of the disk.
func TestCommitNothing(t *testing.T) {
	d := with(t, "state", stateOf(t, rec.State{Seq: 4}))
	b := open(t, d)
	write(t, b, 7, put("a", ""))
	write(t, b, 7, put("a", ""))
	ahead, on := told(b), files(d)
	d.Fall(0)
	for snap := 4; snap <= 6; snap++ {
		for _, list := range [][]api.Write{nil, {}} {
			if n, e := b.Commit(list, snap, 50); n != 6 || e != api.OK {
				t.Error(snap, n, e)
			}
		}
	}
	if d.Down() || told(b) != ahead || files(d) != on {
		t.Error(told(b))
	}
}

// wrongWrites are writes that aren't Right.
func wrongWrites() map[string][]api.Write {
	return map[string][]api.Write{
		"no key":               {put("", "a")},
		"a long key":           {put(strings.Repeat("k", api.MaxKey+1), "a")},
		"a long value":         {put("a", strings.Repeat("v", api.MaxVal+1))},
		"a value of what goes": {{Key: "a", Val: "x", Gone: true}},
		"one key twice":        {put("a", "1"), put("a", "2")},
		"keys that fall":       {put("b", ""), put("a", "")},
		"too many":             puts(api.MaxWrites+1, ""),
	}
}

// P12.2, rule 3: ErrArg, and nothing is turned.
func TestCommitWrong(t *testing.T) {
	d := with(t, "state", stateOf(t, rec.State{Seq: 4}))
	b := open(t, d)
	for range 4 {
		write(t, b, 7, put("a", ""))
	}
	want(t, "Vacuum", b.Vacuum(6), api.OK)
	ahead, on := told(b), files(d)
	wrong := func(what string, list []api.Write, snap, now int) {
		t.Helper()
		if n, e := b.Commit(list, snap, now); n != 0 || e != api.ErrArg {
			t.Errorf("%s: %d, %d", what, n, e)
		}
	}
	check := func() {
		for _, list := range [][]api.Write{nil, {put("a", "x")}, {put("b", "x")}} {
			for _, snap := range []int{math.MinInt, -1, 0, 4, 5, 9, api.MaxSeq, math.MaxInt} {
				wrong(fmt.Sprint("behind ", snap), list, snap, 9)
			}
			for _, now := range []int{math.MinInt, -1, api.MaxTime + 1, math.MaxInt} {
				wrong(fmt.Sprint("at ", now), list, 8, now)
			}
		}
		for what, list := range wrongWrites() {
			wrong(what, list, 8, 9)
		}
	}
	check()
	if told(b) != ahead || files(d) != on {
		t.Error(told(b))
	}
	write(t, b, api.MaxTime, puts(api.MaxWrites, "")...) // the most
	want(t, "Vacuum", b.Vacuum(8), api.OK)
	if n, e := b.Commit([]api.Write{put("z", "")}, 8, 0); n != 10 || e != api.OK {
		t.Error(n, e)
	}
	d.Fall(0)
	d.Sync("log")
	for _, snap := range []int{7, 11} { // ErrArg is ahead of ErrDown
		wrong("without power", nil, snap, 9)
	}
	for what, list := range wrongWrites() {
		wrong(what+", without power", list, 9, 9)
	}
}

// P12.2: without power all that is right is ErrDown, ahead of ErrWritten, and of nothing to write.
func TestCommitDown(t *testing.T) {
	d := disk.New(10000)
	b := open(t, d)
	write(t, b, 7, put("a", ""))
	d.Fall(0)
	d.Sync("log")
	for what, list := range map[string][]api.Write{"nothing": nil, "what was written": {put("a", "")}, "anything": {put("b", "")}, "too long": puts(80, strings.Repeat("v", api.MaxVal))} {
		if n, e := b.Commit(list, 0, 9); n != 0 || e != api.ErrDown {
			t.Errorf("%s: %d, %d", what, n, e)
		}
	}
	wantIs(t, "behind that", b, 0, 1, 7)
}

// P12.2: Append, and Sync: where the power fails at one of these, the store doesn't have the commit.
func TestCommitTurns(t *testing.T) {
	for turns := range 3 {
		d := disk.New(10000)
		b := open(t, d)
		write(t, b, 7, put("a", "1"))
		ahead := told(b)
		d.Fall(turns)
		n, e := b.Commit([]api.Write{put("a", "2")}, 1, 9)
		if turns == 2 {
			if n != 2 || e != api.OK || d.Down() || d.Sync("log") != api.ErrDown {
				t.Error("two turns:", n, e)
			}
			continue
		}
		if n != 0 || e != api.ErrDown || told(b) != ahead {
			t.Error(turns, n, e, told(b))
		}
		wantIs(t, "nothing is kept", open(t, d.Crash(nil)), 0, 1, 7)
		wantIs(t, "all is kept", open(t, d.Crash([]int{1000})), 0, 1+turns, 7+2*turns)
	}
}

// P12.2, rule 3: a disk that is full: nothing is turned, and what goes in still does.
func TestCommitFull(t *testing.T) {
	first, small := commit(1, 0, put("a", "")), commit(2, 0, put("b", ""))
	room := len(logOf(t, first, small))
	for more := range 30 {
		d := disk.New(room + more)
		b := open(t, d)
		write(t, b, 0, put("a", ""))
		ahead, on := told(b), files(d)
		if n, e := b.Commit([]api.Write{put("b", strings.Repeat("v", more+1))}, 1, 0); n != 0 || e != api.ErrFull {
			t.Error(more, n, e)
		}
		if told(b) != ahead || files(d) != on || d.Down() {
			t.Error(more, told(b))
		}
		write(t, b, 0, put("b", ""))
		wantIs(t, "behind a loss of power", open(t, d.Crash(nil)), 0, 2, 0)
	}
	d := disk.New(5)
	b := open(t, d)
	if n, e := b.Commit([]api.Write{put("b", "")}, 0, 0); n != 0 || e != api.ErrFull || files(d) != "" {
		t.Error(n, e, files(d))
	}
}

// longest is writes of which commit 1, at 0, has so many bytes.
func longest(t *testing.T, size int) []api.Write {
	t.Helper()
	list := puts(64, strings.Repeat("v", api.MaxVal))
	last := &list[len(list)-1]
	s, e := rec.Commit(commit(1, 0, list...))
	want(t, "commit", e, api.OK)
	last.Val = last.Val[:api.MaxVal-(len(s)-size)]
	if s, e := rec.Commit(commit(1, 0, list...)); e != api.OK || len(s) != size {
		t.Fatal(len(s), e)
	}
	return list
}

// P12.2: a commit's bytes are MaxText of layer 5 at most.
func TestCommitLong(t *testing.T) {
	d := disk.New(disk.MaxRoom)
	b := open(t, d)
	if n, e := b.Commit(longest(t, frame.MaxText+1), 0, 0); n != 0 || e != api.ErrLong || files(d) != "" {
		t.Error(n, e)
	}
	wantIs(t, "behind ErrLong", b, 0, 0, 0)
	write(t, b, 0, longest(t, frame.MaxText)...)
	wantIs(t, "the longest", open(t, d.Crash(nil)), 0, 1, 0)
	d.Fall(0)
	if n, e := b.Commit(longest(t, frame.MaxText+1)[1:], 0, 0); n != 0 || e != api.ErrWritten { // ahead of ErrLong
		t.Error(n, e)
	}
	full := disk.New(5)
	if n, e := open(t, full).Commit(longest(t, frame.MaxText+1), 0, 0); n != 0 || e != api.ErrLong { // ahead of the disk's errors
		t.Error(n, e)
	}
}

// P12.2: behind commit MaxSeq there is none.
func TestCommitAtMaxSeq(t *testing.T) {
	d := with(t, "state", stateOf(t, rec.State{Seq: api.MaxSeq - 1}))
	b := open(t, d)
	write(t, b, 3, put("a", ""))
	wantIs(t, "the last one", b, api.MaxSeq-1, api.MaxSeq, 3)
	ahead, on := told(b), files(d)
	for list, e := range map[*[]api.Write]api.Errno{{put("b", "")}: api.ErrLong, {put("a", "")}: api.ErrWritten, {}: api.OK} {
		n, got := b.Commit(*list, api.MaxSeq-1, 5)
		if want(t, fmt.Sprint(*list), got, e); e == api.OK && n != api.MaxSeq || e != api.OK && n != 0 {
			t.Error(n)
		}
	}
	if n, e := b.Commit([]api.Write{put("a", "")}, api.MaxSeq, 5); n != 0 || e != api.ErrLong {
		t.Error(n, e)
	}
	if told(b) != ahead || files(d) != on {
		t.Error(told(b))
	}
}

// P12.2: a commit is at now, or At, if that is later.
func TestTimes(t *testing.T) {
	d := disk.New(10000)
	b := open(t, d)
	var ats []int
	for _, c := range []struct{ now, at int }{{5, 5}, {3, 5}, {0, 5}, {5, 5}, {6, 6}, {api.MaxTime, api.MaxTime}, {0, api.MaxTime}} {
		write(t, b, c.now, put("a", ""))
		ats = append(ats, c.at)
		if b.At() != c.at {
			t.Error(c.now, b.At())
		}
	}
	want(t, "Vacuum", b.Vacuum(b.Store().Last()), api.OK) // no commit is kept, but At is
	write(t, b, 1, put("a", ""))
	ats = append(ats, api.MaxTime)
	list, _ := open(t, d.Crash(nil)).Store().Since(0)
	for i, c := range list {
		if c.At != ats[i] {
			t.Error(c)
		}
	}
	if len(list) != len(ats) {
		t.Error(len(list))
	}
}

// P12.2: At of what was read: of the log, of the state's commits, and 0 where neither has any.
func TestAtOfWhatWasRead(t *testing.T) {
	for _, c := range []struct {
		vacuum, at int // at: behind a Save
	}{{0, 9}, {1, 9}, {2, 0}} {
		d := disk.New(10000)
		b := open(t, d)
		write(t, b, 4, put("a", ""))
		write(t, b, 9, put("b", ""))
		want(t, "Vacuum", b.Vacuum(c.vacuum), api.OK)
		wantIs(t, "made", b, c.vacuum, 2, 9)
		wantIs(t, "read in the log", open(t, d.Clone()), 0, 2, 9)
		want(t, "Save", b.Save(), api.OK)
		wantIs(t, "saved", b, c.vacuum, 2, 9)
		read := open(t, d)
		wantIs(t, "read in the state", read, c.vacuum, 2, c.at)
		write(t, read, 7, put("a", ""))
		wantIs(t, "behind that", read, c.vacuum, 3, max(7, c.at))
		wantIs(t, "read again", open(t, d), c.vacuum, 3, max(7, c.at))
	}
}

// P12.2: the store is the one that commits turn.
func TestStore(t *testing.T) {
	b := open(t, disk.New(10000))
	s := b.Store()
	write(t, b, 0, put("a", "x"))
	if val, is := s.Get("a", 1); val != "x" || !is || s.Last() != 1 {
		t.Error(val, is)
	}
	want(t, "Vacuum", b.Vacuum(1), api.OK)
	if s.Low() != 1 || b.Store() != s {
		t.Error(s.Low())
	}
}

// P12.3
func TestVacuum(t *testing.T) {
	d := disk.New(10000)
	b := open(t, d)
	for i := range 5 {
		write(t, b, i, put("a", fmt.Sprint(i)))
	}
	on := files(d)
	for _, c := range []struct {
		seq, low int
		e        api.Errno
	}{{-1, 0, api.ErrArg}, {6, 0, api.ErrArg}, {0, 0, api.OK}, {3, 3, api.OK}, {2, 3, api.ErrArg}, {3, 3, api.OK}, {5, 5, api.OK}, {math.MinInt, 5, api.ErrArg}, {math.MaxInt, 5, api.ErrArg}} {
		want(t, fmt.Sprint("Vacuum of ", c.seq), b.Vacuum(c.seq), c.e)
		wantIs(t, fmt.Sprint("Vacuum of ", c.seq), b, c.low, 5, 4)
	}
	if b.Store().Versions() != 1 || files(d) != on {
		t.Error(b.Store().Versions(), files(d))
	}
}

// P12.3
func TestSave(t *testing.T) {
	d := disk.New(10000)
	b := open(t, d)
	saved := func(low, last int) {
		t.Helper()
		ahead, state := told(b), stateOf(t, rec.Of(b.Store()))
		want(t, "Save", b.Save(), api.OK)
		for _, d := range []*disk.Disk{d, d.Crash(nil)} { // it is safe
			wantFile(t, d, "state", state)
			wantFile(t, d, "next", "none")
		}
		if told(b) != ahead {
			t.Error(told(b))
		}
		wantIs(t, "read", open(t, d.Crash(nil)), low, last, b.At())
	}
	saved(0, 0)
	wantFile(t, d, "log", "none")
	write(t, b, 3, put("a", "x"))
	write(t, b, 3, put("b", "x"))
	saved(0, 2)
	wantFile(t, d, "log", "")
	saved(0, 2)
	want(t, "Vacuum", b.Vacuum(1), api.OK)
	write(t, b, 4, gone("a"))
	saved(1, 3)
	wantFile(t, d, "log", "")
	write(t, b, 4, put("c", ""))
	wantFile(t, d, "log", logOf(t, commit(4, 4, put("c", ""))))
	wantIs(t, "saved, and more", open(t, d.Crash(nil)), 1, 4, 4)
}

// P12.3: Append, Sync, Rename, Truncate: the power fails at each of them.
func TestSaveTurns(t *testing.T) {
	for turns := range 5 {
		d := disk.New(10000)
		b := open(t, d)
		for i := range 3 {
			write(t, b, i, put("a", fmt.Sprint(i)))
		}
		want(t, "Vacuum", b.Vacuum(2), api.OK)
		log := logOf(t, commit(1, 0, put("a", "0")), commit(2, 1, put("a", "1")), commit(3, 2, put("a", "2")))
		state := stateOf(t, rec.Of(b.Store()))
		d.Fall(turns)
		if e := b.Save(); turns == 4 {
			if e != api.OK || d.Down() || d.Sync("state") != api.ErrDown {
				t.Error("four turns:", e)
			}
			continue
		} else if e != api.ErrDown {
			t.Error(turns, e)
		}
		low, next, is := 0, "none", "none"
		switch turns {
		case 1:
			next = ""
		case 2:
			next = state
		case 3:
			low, is = 2, state
		}
		c := d.Crash(nil)
		wantFile(t, c, "next", next)
		wantFile(t, c, "state", is)
		wantFile(t, c, "log", log)
		wantIs(t, fmt.Sprint("behind ", turns), open(t, c), low, 3, 2)
		wantFile(t, c, "next", "none")
		wantFile(t, c, "log", log)
	}
}

// P12.3: no room for the state beside all that there is: nothing is turned.
func TestSaveFull(t *testing.T) {
	first := commit(1, 0, put("a", "x"))
	log, state := logOf(t, first), stateOf(t, rec.State{Commits: []api.Commit{first}})
	for more := -3; more <= 1; more++ {
		d := disk.New(len(log) + len(state) + more)
		b := open(t, d)
		write(t, b, 0, put("a", "x"))
		ahead, on := told(b), files(d)
		if more >= 0 {
			want(t, "Save", b.Save(), api.OK)
			continue
		}
		want(t, "Save", b.Save(), api.ErrFull)
		if told(b) != ahead || files(d) != on || d.Down() {
			t.Error(more, told(b), files(d))
		}
		want(t, "Vacuum", b.Vacuum(1), api.OK) // the state is shorter then
		want(t, "Save", b.Save(), api.OK)
		wantIs(t, "behind it", open(t, d.Crash(nil)), 1, 1, 0)
	}
}

// P12.3: a state's bytes are MaxText of layer 5 at most; above that nothing is turned.
func TestSaveLong(t *testing.T) {
	list := longest(t, frame.MaxText-4) // the state has 4 bytes more: a Seq of 0, no base, and that there is one commit
	for more := range 2 {
		d := disk.New(disk.MaxRoom)
		b := open(t, d)
		list[63].Val += strings.Repeat("v", more)
		write(t, b, 0, list...)
		ahead, on := told(b), files(d)
		if text, _ := rec.Of(b.Store()).Encode(); len(text) <= frame.MaxText != (more == 0) {
			t.Fatal(len(text))
		}
		if more == 0 {
			want(t, "Save", b.Save(), api.OK)
			wantIs(t, "the longest", open(t, d.Crash(nil)), 0, 1, 0)
			continue
		}
		want(t, "Save", b.Save(), api.ErrLong)
		if told(b) != ahead || files(d) != on || d.Down() {
			t.Error(told(b))
		}
		write(t, b, 0, gone(list[0].Key))
		want(t, "Vacuum", b.Vacuum(2), api.OK)
		want(t, "Save", b.Save(), api.OK)
		wantIs(t, "behind it", open(t, d.Crash(nil)), 2, 2, 0)
	}
}

// P12.3: ErrLong is ahead of the disk's errors.
func TestSaveLongDown(t *testing.T) {
	d := disk.New(disk.MaxRoom)
	b := open(t, d)
	write(t, b, 0, longest(t, frame.MaxText)...)
	d.Fall(0)
	want(t, "Save", b.Save(), api.ErrLong)
	if d.Down() {
		t.Error("a turn")
	}
	want(t, "Vacuum", b.Vacuum(1), api.OK)
	want(t, "Save", b.Save(), api.ErrDown)
	want(t, "Save", b.Save(), api.ErrDown)
}

// P12.4: a nil Base, and one that Open didn't make.
func TestNil(t *testing.T) {
	var b *base.Base
	if b.Store() != nil || b.At() != 0 {
		t.Error(b.Store(), b.At())
	}
	for _, list := range [][]api.Write{nil, {put("a", "")}} {
		for _, n := range []int{-1, 0, 1} {
			if got, e := b.Commit(list, n, n); got != 0 || e != api.ErrArg {
				t.Error(got, e)
			}
			want(t, "Vacuum", b.Vacuum(n), api.ErrArg)
		}
	}
	want(t, "Save", b.Save(), api.ErrArg)
	zero := &base.Base{}
	if zero.Store() != nil || zero.At() != 0 || zero.Save() == api.OK || zero.Vacuum(0) == api.OK {
		t.Error("a zero Base")
	}
	if n, e := zero.Commit([]api.Write{put("a", "")}, 0, 0); n != 0 || e != api.ErrDown {
		t.Error(n, e)
	}
}

// Rule 4: what is handed in is neither changed nor kept.
func TestHandedIn(t *testing.T) {
	b := open(t, disk.New(10000))
	list := []api.Write{put("a", "x"), gone("b")}
	write(t, b, 0, list...)
	if fmt.Sprint(list) != "[{a x false} {b  true}]" {
		t.Error(list)
	}
	ahead := told(b)
	list[0], list[1] = gone("turned"), gone("turned")
	if told(b) != ahead {
		t.Error(told(b))
	}
}

// P12.1: the store of no keys behind commit 0 takes what any store does.
func TestAsAStore(t *testing.T) {
	b := open(t, disk.New(100000))
	s, _ := store.New(0, nil)
	for i := range 50 {
		list := store.Sorted([]api.Write{put(fmt.Sprint(i%7), fmt.Sprint(i)), gone(fmt.Sprint(i % 3))})
		write(t, b, i, list...)
		want(t, "Commit", s.Commit(commit(i+1, i, list...)), api.OK)
	}
	for seq := range 51 {
		if fmt.Sprint(b.Store().Base(seq)) != fmt.Sprint(s.Base(seq)) {
			t.Error(seq, b.Store().Base(seq))
		}
	}
}
