package world

import (
	"slices"

	"mailbag/api"
	"mailbag/broker"
	"mailbag/disk"
	"mailbag/octet"
	"mailbag/wire"
)

// Kind is what a step does.
type Kind int

// The kinds of steps.
const (
	Ask Kind = iota + 1
	Tick
	Reap
	Clean
	Save
	Fall
	Crash
)

// MaxSteps is how many steps a script has at most, MaxKeep how many numbers a step keeps.
const (
	MaxSteps = 10000
	MaxKeep  = 16
)

// maxSession is the last session.
const maxSession = broker.MaxSessions - 1

// Step is a step of a script.
type Step struct {
	Kind    Kind
	Session int
	N       int
	Text    string
	Keep    []int
}

// Encode is steps as bytes.
func Encode(list []Step) (string, api.Errno) {
	if len(list) > MaxSteps {
		return "", api.ErrLong
	}
	b := octet.Num(nil, len(list))
	for _, s := range list {
		if !s.right() {
			return "", api.ErrArg
		}
		b = s.lay(b)
	}
	return string(b), api.OK
}

// Decode is the steps that bytes are.
func Decode(text string) ([]Step, api.Errno) {
	r := octet.Read(text)
	var list []Step
	for range r.Num(MaxSteps) {
		s := readStep(r)
		// A step of no Kind is what is read behind an error, too: so a great number of steps that aren't there ends here.
		if !s.right() {
			return nil, api.ErrForm
		}
		list = append(list, s)
	}
	if r.End() != api.OK {
		return nil, api.ErrForm
	}
	return list, api.OK
}

// right tells whether a step has bytes.
func (s Step) right() bool {
	return s.Kind >= Ask && s.Kind <= Crash &&
		s.Session >= 0 && s.Session <= maxSession &&
		s.N >= 0 && s.N <= api.MaxTime &&
		len(s.Text) <= wire.MaxAsk &&
		len(s.Keep) <= MaxKeep && !slices.ContainsFunc(s.Keep, isNoSize)
}

// isNoSize tells whether a number is none of a disk's bytes.
func isNoSize(n int) bool { return n < 0 || n > disk.MaxRoom }

// lay lays a step.
func (s Step) lay(b []byte) []byte {
	b = octet.Num(b, int(s.Kind))
	b = octet.Num(b, s.Session)
	b = octet.Num(b, s.N)
	b = octet.Text(b, s.Text)
	b = octet.Num(b, len(s.Keep))
	for _, n := range s.Keep {
		b = octet.Num(b, n)
	}
	return b
}

// readStep reads a step; behind an error it may be one that isn't right.
func readStep(r *octet.Reader) Step {
	s := Step{Kind: Kind(r.Num(int(Crash)))}
	s.Session = r.Num(maxSession)
	s.N = r.Num(api.MaxTime)
	s.Text = r.Text(wire.MaxAsk)
	for range r.Num(MaxKeep) {
		s.Keep = append(s.Keep, r.Num(disk.MaxRoom))
	}
	return s
}
