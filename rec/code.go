package rec

import (
	"math"

	"mailbag/api"
	"mailbag/octet"
	"mailbag/store"
)

// Commit is a commit as bytes.
func Commit(c api.Commit) (string, api.Errno) {
	if !isRight(c) {
		return "", api.ErrArg
	}
	return string(layCommit(nil, c)), api.OK
}

// ReadCommit is the commit that bytes are.
func ReadCommit(s string) (api.Commit, api.Errno) {
	r := octet.Read(s)
	c := readCommit(r)
	if r.End() != api.OK || !isRight(c) {
		return api.Commit{}, api.ErrForm
	}
	return c, api.OK
}

// Encode is a state as bytes.
func (s State) Encode() (string, api.Errno) {
	if _, e := s.Store(); e != api.OK {
		return "", api.ErrArg
	}
	b := layWrites(octet.Num(nil, s.Seq), s.Base)
	b = octet.Num(b, len(s.Commits))
	for _, c := range s.Commits {
		b = layCommit(b, c)
	}
	return string(b), api.OK
}

// Decode is the state that bytes are.
func Decode(b string) (State, api.Errno) {
	r := octet.Read(b)
	s := State{Seq: r.Num(api.MaxSeq)}
	s.Base = readWrites(r, math.MaxInt)
	s.Commits = readCommits(r)
	if r.End() != api.OK {
		return State{}, api.ErrForm
	}
	// Only a state of which there is a store has bytes.
	if _, e := s.Store(); e != api.OK {
		return State{}, api.ErrForm
	}
	return s, api.OK
}

// isRight tells whether a commit has bytes.
func isRight(c api.Commit) bool {
	return c.Seq >= 1 && c.Seq <= api.MaxSeq && c.At >= 0 && c.At <= api.MaxTime && store.Right(c.Writes)
}

// layCommit lays a commit.
func layCommit(b []byte, c api.Commit) []byte {
	return layWrites(octet.Num(octet.Num(b, c.Seq), c.At), c.Writes)
}

// layWrites lays how many writes there are, and these.
func layWrites(b []byte, list []api.Write) []byte {
	b = octet.Num(b, len(list))
	for _, w := range list {
		b = octet.Text(b, w.Key)
		b = octet.Flag(b, w.Gone)
		b = octet.Text(b, w.Val)
	}
	return b
}

// readCommit reads a commit.
func readCommit(r *octet.Reader) api.Commit {
	c := api.Commit{Seq: r.Num(api.MaxSeq)}
	c.At = r.Num(api.MaxTime)
	c.Writes = readWrites(r, api.MaxWrites)
	return c
}

// readCommits reads how many commits there are, and these. However many that says, it ends at the first fault: no commit is without bytes.
func readCommits(r *octet.Reader) []api.Commit {
	var list []api.Commit
	for range r.Num(api.MaxSeq) {
		c := readCommit(r)
		if r.Err() != api.OK {
			return nil
		}
		list = append(list, c)
	}
	return list
}

// readWrites reads how many writes there are, most of them at most, and these; it ends as readCommits does.
func readWrites(r *octet.Reader, most int) []api.Write {
	var list []api.Write
	for range r.Num(most) {
		w := api.Write{Key: r.Text(api.MaxKey)}
		w.Gone = r.Flag()
		w.Val = r.Text(api.MaxVal)
		if r.Err() != api.OK {
			return nil
		}
		list = append(list, w)
	}
	return list
}
