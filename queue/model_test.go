package queue_test

import (
	"cmp"
	"fmt"
	"maps"
	"math/rand"
	"slices"
	"testing"

	"mailbag/api"
	"mailbag/claim"
	"mailbag/ord"
	"mailbag/queue"
	"mailbag/store"
	"mailbag/txn"
)

// place is where a message is.
type place struct{ queue, id string }

// model is queues and messages in the chapter's words: what a session sees, and what it wrote of that.
type model struct {
	queues map[string]queue.Queue
	all    map[place]queue.Message
	wrote  map[place]bool
	snap   int
	now    int
	tag    int
	ids    int
}

// id is layer 10's next ID.
func (m *model) id() string {
	m.ids++
	return string(ord.Int(ord.Int(ord.Int(nil, int64(m.snap)), int64(m.tag)), int64(m.ids)))
}

// keep lets a message be at a place.
func (m *model) keep(at place, x queue.Message) {
	m.all[at], m.wrote[at] = x, true
}

// drop lets a message go.
func (m *model) drop(at place) {
	delete(m.all, at)
	m.wrote[at] = true
}

// places is where a queue's messages are, in order.
func (m *model) places(name string) []place {
	var list []place
	for at := range m.all {
		if at.queue == name {
			list = append(list, at)
		}
	}
	slices.SortFunc(list, func(a, b place) int { return cmp.Compare(a.id, b.id) })
	return list
}

// send is P15.3.
func (m *model) send(name, body string, delay int) (string, api.Errno) {
	if _, is := m.queues[name]; !is {
		return "", api.ErrNone
	}
	if len(body) > 2000 || delay < 0 || delay > api.MaxTime {
		return "", api.ErrArg
	}
	id := m.id()
	m.keep(place{name, id}, queue.Message{ID: id, Body: body, Ready: m.now + delay})
	return id, api.OK
}

// take is P15.4.
func (m *model) take(name string, lease int, busy func(place) bool) (queue.Message, api.Errno) {
	c, is := m.queues[name]
	if !is {
		return queue.Message{}, api.ErrNone
	}
	if lease < 1 || lease > api.MaxTime {
		return queue.Message{}, api.ErrArg
	}
	list := slices.DeleteFunc(m.places(name), func(at place) bool { return m.all[at].Ready > m.now || busy(at) })
	for _, at := range list {
		x := m.all[at]
		if x.Count < c.Max {
			x.Ready, x.Count, x.Token = m.now+lease, x.Count+1, m.id()
			m.keep(at, x)
			return x, api.OK
		}
		m.drop(at)
		if _, is := m.queues[c.Dead]; is {
			m.keep(place{c.Dead, at.id}, queue.Message{ID: at.id, Body: x.Body, Ready: m.now})
		}
	}
	return queue.Message{}, api.ErrNone
}

// held is what P15.5's calls tell ahead of what they do.
func (m *model) held(at place, token string, n int) api.Errno {
	x, is := m.all[at]
	switch {
	case m.queues[at.queue].Name == "" || !is:
		return api.ErrNone
	case x.Token == "" || x.Token != token || x.Ready <= m.now:
		return api.ErrLease
	case n < 1 || n > api.MaxTime:
		return api.ErrArg
	}
	return api.OK
}

// session is a transaction with its model, and who has it.
type session struct {
	who int
	x   *txn.Txn
	own *model
}

// run is a store with its model, and sessions over it.
type run struct {
	r        *rand.Rand
	s        *store.Store
	m        *model
	last     map[place]int // the last commit that wrote there
	claims   *claim.Claims
	sessions []*session
	tags     int
	held     []queue.Message // what was told of Takes
	names    []string
	came     map[string]int // by ids: messages that came, by commits
	went     map[string]int // and that went
	lent     map[place]int  // and how often they were handed out since they came to that queue
	written  int            // commits that were not free
	taken    int            // commits' leases
}

// begin lets a session's transaction begin.
func (u *run) begin(s *session) {
	u.tags++
	s.x = txn.Begin(u.s, u.m.now, u.tags)
	s.own = &model{queues: u.m.queues, all: maps.Clone(u.m.all), wrote: map[place]bool{}, snap: u.s.Last(), now: u.m.now, tag: u.tags}
	u.claims.Free(s.who)
}

// commit commits a session's transaction, if it is free; and it begins anew.
func (u *run) commit(s *session) string {
	defer u.begin(s)
	free := true
	for at := range s.own.wrote {
		free = free && u.last[at] <= s.own.snap
	}
	list := s.x.Writes()
	if u.s.Free(list, s.x.Snap()) != free || len(list) != len(s.own.wrote) {
		return fmt.Sprint("free: ", !free, " of ", len(list))
	}
	if !free {
		u.written++
		return ""
	}
	if e := u.s.Commit(api.Commit{Seq: u.s.Last() + 1, At: u.m.now, Writes: list}); e != api.OK {
		return fmt.Sprint("Commit: ", e)
	}
	return u.merge(s)
}

// merge lays what a session wrote into what is committed, and tells what breaks P3 of that.
func (u *run) merge(s *session) string {
	wrong := ""
	ids := map[string]int{} // by ids: how many more there are behind the commit
	for at := range s.own.wrote {
		old, was := u.m.all[at]
		x, is := s.own.all[at]
		u.last[at] = u.s.Last()
		delete(u.m.all, at)
		if is {
			u.m.all[at] = x
			ids[at.id]++
		} else {
			delete(u.lent, at)
		}
		if was {
			ids[at.id]--
		}
		if is && x.Token != "" && x.Token != old.Token {
			u.lent[at]++
			u.taken++
			if old.Token != "" && old.Ready > u.m.now || u.lent[at] > u.m.queues[at.queue].Max {
				wrong = fmt.Sprintf("%q: handed out by %q, while held by %q till %d, %d times", at, x.Token, old.Token, old.Ready, u.lent[at])
			}
		}
	}
	for id, n := range ids {
		u.came[id] += max(n, 0)
		u.went[id] -= min(n, 0)
		if u.came[id] > 1 || u.went[id] > u.came[id] {
			wrong = fmt.Sprintf("%q: came %d times, went %d times", id, u.came[id], u.went[id])
		}
	}
	return wrong
}

// span is a lease or a delay; once in a while none.
func (u *run) span() int {
	if u.r.Intn(20) == 0 {
		return []int{0, -1, api.MaxTime + 1}[u.r.Intn(3)]
	}
	return 1 + u.r.Intn(12)
}

// take is a Take of a session, by what the others claim.
func (u *run) take(s *session, name string) string {
	lease := u.span()
	got, e := queue.Take(s.x, name, lease, u.claims.Busy(s.who))
	wanted, other := s.own.take(name, lease, func(at place) bool { return u.claims.Busy(s.who)(queue.Place(at.queue, at.id)) })
	if got != wanted || e != other {
		return fmt.Sprintf("Take of %q, %d: %v, %d, not %v, %d", name, lease, got, e, wanted, other)
	}
	if e == api.OK {
		u.held = append(u.held, got)
		if u.r.Intn(4) > 0 {
			u.claims.Take(s.who, queue.Place(name, got.ID))
		}
	}
	return ""
}

// hold is a call of who may hold a message.
func (u *run) hold(s *session, name string) string {
	if len(u.held) == 0 {
		return ""
	}
	m := u.held[len(u.held)-1-u.r.Intn(min(len(u.held), 12))]
	token, n := m.Token, u.span()
	if u.r.Intn(12) == 0 {
		token = []string{"", m.ID, "x"}[u.r.Intn(3)]
	}
	at := place{name, m.ID}
	what, got, e := "", api.OK, s.own.held(at, token, n)
	x := s.own.all[at]
	switch u.r.Intn(3) {
	case 0:
		e = s.own.held(at, token, 1)
		what, got = "Ack", queue.Ack(s.x, name, m.ID, token)
		if e == api.OK {
			s.own.drop(at)
		}
	case 1:
		what, got = "Nack", queue.Nack(s.x, name, m.ID, token, n)
		if e == api.OK {
			x.Ready, x.Token = s.own.now+n, ""
			s.own.keep(at, x)
		}
	default:
		what, got = "Extend", queue.Extend(s.x, name, m.ID, token, n)
		if e == api.OK {
			x.Ready = s.own.now + n
			s.own.keep(at, x)
		}
	}
	if got != e {
		return fmt.Sprintf("%s at %q, %d: %d, not %d", what, at, n, got, e)
	}
	return ""
}

// step is one call of a session: what is told apart of it.
func (u *run) step(s *session) string {
	name := u.names[u.r.Intn(len(u.names))]
	switch u.r.Intn(10) {
	case 0, 1:
		body, delay := fmt.Sprint("body ", u.r.Intn(9)), u.r.Intn(7)
		if u.r.Intn(30) == 0 {
			body, delay = long(2000+u.r.Intn(2)), u.span()
		}
		got, e := queue.Send(s.x, name, body, delay)
		if id, other := s.own.send(name, body, delay); got != id || e != other {
			return fmt.Sprintf("Send to %q: %q, %d, not %q, %d", name, got, e, id, other)
		}
		return ""
	case 2, 3, 4:
		return u.take(s, name)
	default:
		return u.hold(s, name)
	}
}

// unlike tells what a session and its model tell apart; nothing: "".
func (u *run) unlike(s *session) string {
	var seen, kept []string
	for key, v := range s.x.Range(ord.Key("m"), "n") {
		seen = append(seen, fmt.Sprintf("%q %q", key, v))
	}
	for at, m := range s.own.all {
		kept = append(kept, fmt.Sprintf("%q %q", ord.Key("m", at.queue, at.id), bytesOf(m)))
	}
	slices.Sort(seen)
	slices.Sort(kept)
	if !slices.Equal(seen, kept) {
		return fmt.Sprintf("kept: %q, not %q", seen, kept)
	}
	for _, name := range u.names {
		if got := queue.Live(s.x, name); got != len(s.own.places(name)) {
			return fmt.Sprintf("Live of %q: %d", name, got)
		}
	}
	return ""
}

// newRun is queues, and sessions over them.
func newRun(t *testing.T, seed int64) *run {
	t.Helper()
	u := &run{r: rand.New(rand.NewSource(seed)), claims: claim.New(), last: map[place]int{}, came: map[string]int{}, went: map[string]int{}, lent: map[place]int{}}
	u.s, _ = store.New(0, nil)
	u.m = &model{queues: map[string]queue.Queue{}, all: map[place]queue.Message{}, now: int(seed)}
	x := txn.Begin(u.s, 0, 0)
	for _, c := range []queue.Queue{q("a", 2, "a\x00"), q("a\x00", 1, "b"), q("b", 3, "a"), q("c", 1, "no such"), q("d", 1000, "")} {
		want(t, "Make", queue.Make(x, c), api.OK)
		u.m.queues[c.Name] = c
		u.names = append(u.names, c.Name)
	}
	u.names = append(u.names, "no such")
	want(t, "Commit", u.s.Commit(api.Commit{Seq: 1, Writes: x.Writes()}), api.OK)
	for who := range 3 {
		s := &session{who: who}
		u.sessions = append(u.sessions, s)
		u.begin(s)
	}
	return u
}

// P15.2 to P15.5, P1, P3: whatever sessions send, take, ack and give back, committed or not, as time goes by: all calls answer what the chapter's words come to, just that is kept, and no message comes or goes twice, is held by two, or is handed out too often.
func TestModel(t *testing.T) {
	written := 0
	for seed := range int64(25) {
		u := newRun(t, seed)
		for step := range 1500 {
			s := u.sessions[u.r.Intn(len(u.sessions))]
			unlike := u.step(s)
			if unlike == "" && step%5 == 0 {
				unlike = u.unlike(s)
			}
			switch n := u.r.Intn(20); {
			case unlike != "":
			case n < 4 || len(s.x.Writes()) > 100:
				unlike = u.commit(s)
			case n == 4:
				u.begin(s)
			case n < 8:
				u.m.now += u.r.Intn(4)
			}
			if unlike != "" {
				t.Fatalf("seed %d, step %d: %s", seed, step, unlike)
			}
		}
		written += u.written
		if u.s.Last() < 50 || len(u.came) < 50 || len(u.went) < 20 || u.taken < 50 {
			t.Errorf("seed %d: %d commits, %d came, %d went, %d leases", seed, u.s.Last(), len(u.came), len(u.went), u.taken)
		}
		if wrong := u.empty(); wrong != "" {
			t.Errorf("seed %d: %s", seed, wrong)
		}
	}
	if written < 50 {
		t.Error("commits that weren't free:", written)
	}
}

// empty takes and acks, one transaction each, as often as there are messages in each queue (P5): what isn't empty then.
func (u *run) empty() string {
	names := []string{"d", "c", "a", "a\x00", "b", "a"} // the dead ones of three queues go round
	for _, s := range u.sessions {
		u.begin(s)
	}
	s := u.sessions[0]
	for _, name := range names {
		u.m.now += 100
		u.begin(s)
		for range queue.Live(s.x, name) {
			m, e := queue.Take(s.x, name, 1, u.claims.Busy(s.who))
			if e == api.OK {
				e = queue.Ack(s.x, name, m.ID, m.Token)
			}
			if e != api.OK && e != api.ErrNone {
				return fmt.Sprintf("%q: %d", name, e)
			}
			if e := u.s.Commit(api.Commit{Seq: u.s.Last() + 1, At: u.m.now, Writes: s.x.Writes()}); e != api.OK {
				return fmt.Sprint("Commit: ", e)
			}
			u.begin(s)
		}
	}
	for _, name := range names {
		if n := queue.Live(s.x, name); n != 0 {
			return fmt.Sprintf("%d left in %q", n, name)
		}
	}
	return ""
}
