package base

import (
	"mailbag/api"
	"mailbag/disk"
	"mailbag/frame"
	"mailbag/rec"
)

// Open is what a disk keeps.
func Open(d *disk.Disk) (*Base, api.Errno) {
	if d == nil {
		return nil, api.ErrArg
	}
	// A state that wasn't written to its end is nothing, and the next one begins anew.
	if e := unlessNone(d.Remove(nextFile)); e != api.OK {
		return nil, e
	}
	b := &Base{disk: d}
	if e := b.readState(); e != api.OK {
		return nil, e
	}
	if e := b.readLog(); e != api.OK {
		return nil, e
	}
	return b, api.OK
}

// readState reads the state that was saved last.
func (b *Base) readState() api.Errno {
	text, e := b.disk.Read(stateFile)
	if unlessNone(e) != api.OK {
		return e
	}
	var s rec.State // if there is none: no keys behind commit 0
	if e == api.OK {
		if s, e = stateOf(text); e != api.OK {
			return e
		}
	}
	if b.store, e = s.Store(); e != api.OK {
		return api.ErrBad
	}
	if n := len(s.Commits); n > 0 {
		b.at = s.Commits[n-1].At
	}
	return api.OK
}

// stateOf is the state of which a file's bytes are the frame.
func stateOf(file string) (rec.State, api.Errno) {
	text, n := frame.Get(file)
	if n == 0 || n < len(file) {
		return rec.State{}, api.ErrBad
	}
	s, e := rec.Decode(text)
	if e != api.OK {
		return rec.State{}, api.ErrBad
	}
	return s, api.OK
}

// readLog takes in the commits of the log, if there is one, and cuts it behind its whole frames, so that the next one stands directly behind them.
func (b *Base) readLog() api.Errno {
	log, e := b.disk.Read(logFile)
	if e != api.OK {
		return unlessNone(e)
	}
	texts, end := frame.All(log)
	for _, text := range texts {
		if e := b.readCommit(text); e != api.OK {
			return e
		}
	}
	if end < len(log) {
		if e := b.disk.Truncate(logFile, end); e != api.OK {
			return e
		}
	}
	// Also of a log that is whole: what was read is told from now on, and must not be lost again.
	return b.disk.Sync(logFile)
}

// readCommit takes in a commit of the log, if the state doesn't have it.
func (b *Base) readCommit(text string) api.Errno {
	c, e := rec.ReadCommit(text)
	if e != api.OK {
		return api.ErrBad
	}
	if c.Seq <= b.store.Last() {
		return api.OK
	}
	if e := b.take(c); e != api.OK {
		return api.ErrBad
	}
	return api.OK
}
