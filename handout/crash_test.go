package handout_test

import (
	"slices"
	"testing"

	"handout/api"
	"handout/handout"
	"handout/journal"
)

// dying is a run of calls up to one within which the device dies.
type dying struct {
	name   string
	config api.Config
	quota  int // fullQuota: what the calls before the last one have written, and no byte more
	// before makes all calls but the last one, and tells the token of the
	// lease that the last one is about.
	before func(t *testing.T, s *handout.Service) int
	last   func(s *handout.Service, token int) api.Errno
	// Where the tasks are, and how often they were handed out: if the last
	// call never was, and if it was done.
	old, done [][2]int
	silent    bool // the last call has nothing to write
}

const fullQuota = -1

// oneLeased takes a task, and leases it.
func oneLeased(t *testing.T, s *handout.Service) int {
	wantTaken(t, s, 1, api.Task{Key: "a"})
	wantTicket(t, s, 1, 0, 0, 0)
	return wantGrant(t, s, 1, 1, 1, "")
}

func twoTasks(t *testing.T, s *handout.Service) int {
	token := oneLeased(t, s)
	wantTaken(t, s, 2, api.Task{Key: "b", Payload: "two"})
	return token
}

func threeWaiting(t *testing.T, s *handout.Service) int {
	token := oneLeased(t, s)
	for ticket := 2; ticket <= 4; ticket++ {
		wantTicket(t, s, ticket, 0, 0, 0)
	}
	return token
}

// dyings are those that die within Enqueue and Poll.
func dyings() []dying {
	enqueue := func(s *handout.Service, _ int) api.Errno {
		id, e := s.Enqueue(api.Task{Key: "k", Payload: "last"})
		if id != 0 && e != api.OK {
			return -1
		}
		return e
	}
	poll := func(s *handout.Service, _ int) api.Errno {
		ticket, e := s.Poll(0, 0, 0)
		if ticket != 0 && e != api.OK {
			return -1
		}
		return e
	}
	none := func(t *testing.T, s *handout.Service) int { return 0 }
	c, all, p := wideConfig(), api.MaxQuota, api.Pending
	return []dying{
		{"Enqueue on a new device", c, all, none, enqueue, nil, [][2]int{{p, 0}}, false},
		{"Enqueue on a device for one", c, journal.Size(1), none, enqueue, nil, [][2]int{{p, 0}}, false},
		{"Enqueue", c, all, twoTasks, enqueue, [][2]int{{p, 1}, {p, 0}}, [][2]int{{p, 1}, {p, 0}, {p, 0}}, false},
		{"Enqueue that is handed out", c, all, threeWaiting, enqueue, [][2]int{{p, 1}}, [][2]int{{p, 1}, {p, 1}}, false},
		{"Enqueue on a device that is full", c, journal.Size(3), twoTasks, enqueue, [][2]int{{p, 1}, {p, 0}}, [][2]int{{p, 1}, {p, 0}, {p, 0}}, false},
		{"Enqueue that is handed out on a full device", c, journal.Size(2), threeWaiting, enqueue, [][2]int{{p, 1}}, [][2]int{{p, 1}, {p, 1}}, false},
		{"Poll", c, all, twoTasks, poll, [][2]int{{p, 1}, {p, 0}}, [][2]int{{p, 1}, {p, 1}}, false},
		{"Poll on a device that is full", c, fullQuota, twoTasks, poll, [][2]int{{p, 1}, {p, 0}}, [][2]int{{p, 1}, {p, 1}}, false},
		{"Poll for nothing", c, all, threeWaiting, poll, [][2]int{{p, 1}}, [][2]int{{p, 1}}, true},
	}
}

// dyingLeases are those that die when a lease ends.
func dyingLeases() []dying {
	complete := func(s *handout.Service, token int) api.Errno { return s.Complete(1, token) }
	fail := func(s *handout.Service, token int) api.Errno { return s.Fail(1, token) }
	tick := func(s *handout.Service, _ int) api.Errno { return s.Tick(3) }
	c, once, short, shortTwice := wideConfig(), wideConfig(), wideConfig(), wideConfig()
	once.Attempts = 1
	short.Lease = 1
	shortTwice.Lease, shortTwice.Attempts = 1, 2
	all, p := api.MaxQuota, api.Pending
	one := [][2]int{{p, 1}}
	return []dying{
		{"Complete", c, all, twoTasks, complete, [][2]int{{p, 1}, {p, 0}}, [][2]int{{api.Done, 1}, {p, 0}}, false},
		{"Complete on a device that is full", c, fullQuota, oneLeased, complete, one, [][2]int{{api.Done, 1}}, false},
		{"Complete at the last attempt", once, all, oneLeased, complete, [][2]int{{api.Dead, 1}}, [][2]int{{api.Done, 1}}, false},
		{"Fail of what nobody waits for", c, all, oneLeased, fail, one, one, true},
		{"Fail of what is handed out again", c, all, threeWaiting, fail, one, [][2]int{{p, 2}}, false},
		{"Fail of what is handed out again on a full device", c, fullQuota, threeWaiting, fail, one, [][2]int{{p, 2}}, false},
		{"Fail at the last attempt", once, all, threeWaiting, fail, [][2]int{{api.Dead, 1}}, [][2]int{{api.Dead, 1}}, true},
		{"Tick within leases", c, all, threeWaiting, tick, one, one, true},
		// Each of the three ticks hands out what the one before it has.
		{"Tick", short, all, threeWaiting, tick, one, [][2]int{{p, 4}}, false},
		{"Tick on a device that is full", short, fullQuota, threeWaiting, tick, one, [][2]int{{p, 4}}, false},
		{"Tick to the last attempt", shortTwice, all, threeWaiting, tick, one, [][2]int{{api.Dead, 2}}, false},
	}
}

// dyingRequeues are those that die when a dead task comes back.
func dyingRequeues() []dying {
	requeue := func(s *handout.Service, _ int) api.Errno { return s.Requeue(1) }
	requeueNone := func(s *handout.Service, _ int) api.Errno {
		if s.Requeue(2) != api.ErrTask {
			return -1
		}
		ids, e := s.Buried(0)
		if len(ids) != 1 {
			return -1
		}
		return e
	}
	twice := wideConfig()
	twice.Attempts = 2
	all, p, dead := api.MaxQuota, api.Pending, api.Dead
	old := [][2]int{{dead, 2}, {p, 1}}
	return []dying{
		{"Requeue of what nobody waits for", twice, all, oneDead, requeue, old, [][2]int{{p, 0}, {p, 1}}, false},
		{"Requeue on a device that is full", twice, fullQuota, oneDead, requeue, old, [][2]int{{p, 0}, {p, 1}}, false},
		{"Requeue of what is handed out", twice, all, oneDeadAndPolls, requeue, old, [][2]int{{p, 1}, {p, 1}}, false},
		{"Requeue of what is handed out on a full device", twice, fullQuota, oneDeadAndPolls, requeue, old, [][2]int{{p, 1}, {p, 1}}, false},
		{"Requeue of what is not dead, and Buried", twice, all, oneDead, requeueNone, old, old, true},
	}
}

// oneDead takes two tasks: the first one dies by a config of two attempts, the second one is leased.
func oneDead(t *testing.T, s *handout.Service) int {
	wantErrno(t, "Fail", s.Fail(1, oneLeased(t, s)), api.OK)
	wantErrno(t, "Fail", s.Fail(1, leased(t, s, 1, 2)), api.OK)
	wantTaken(t, s, 2, api.Task{Key: "b"})
	return leased(t, s, 2, 1)
}

func oneDeadAndPolls(t *testing.T, s *handout.Service) int {
	token := oneDead(t, s)
	wantTicket(t, s, 4, 0, 0, 0)
	wantTicket(t, s, 5, 0, 0, 0)
	return token
}

// device has the quota for this run.
func (c dying) device(t *testing.T) *handout.Device {
	t.Helper()
	if c.quota != fullQuota {
		return newDevice(t, c.quota)
	}
	d := newDevice(t, api.MaxQuota)
	c.before(t, openOn(t, d, c.config))
	bytes, _ := d.Read()
	return newDevice(t, len(bytes))
}

// has says whether these are all tasks of a service.
func has(s *handout.Service, tasks [][2]int) bool {
	for i, want := range tasks {
		if where, times, e := s.State(i + 1); where != want[0] || times != want[1] || e != api.OK {
			return false
		}
	}
	_, _, e := s.State(len(tasks) + 1)
	return e == api.ErrTask
}

// TestP15DiedWithinACall lets the device die at every change of a call, and
// keeps of what was not safe every number of bytes.
func TestP15DiedWithinACall(t *testing.T) {
	for _, c := range slices.Concat(dyings(), dyingLeases(), dyingRequeues()) {
		seen := map[api.Errno]int{}
		for fuse := range 4 {
			for keep := -1; keep < 100; keep++ {
				d := c.device(t)
				s := openOn(t, d, c.config)
				token := c.before(t, s)
				d.Fuse(fuse)
				e := c.last(s, token)
				seen[e]++
				d.Crash(keep)
				s = openOn(t, d, wideConfig())
				whole := has(s, c.done)
				if e == api.OK && !whole || e != api.OK && e != api.ErrDead || !whole && !has(s, c.old) {
					t.Errorf("%s, behind a fuse of %d, %d bytes kept: answered %d, done: %t", c.name, fuse, keep, e, whole)
				}
				wantWorks(t, d, s, len(c.old), len(c.done), whole)
			}
		}
		if c.silent == (seen[api.ErrDead] > 0) || seen[api.OK] == 0 {
			t.Errorf("%s: answered %v", c.name, seen)
		}
	}
}

// wantWorks lets the service that was opened behind the crash go on.
func wantWorks(t *testing.T, d *handout.Device, s *handout.Service, old, done int, whole bool) {
	t.Helper()
	n := old
	if whole {
		n = done
	}
	next, e := s.Enqueue(api.Task{Key: "next", Priority: 9, Payload: "next"})
	if e == api.ErrFull {
		d.Crash(-1)
		wantNoTask(t, openOn(t, d, wideConfig()), n+1)
		return
	}
	if next != n+1 || e != api.OK {
		t.Errorf("the next Enqueue = %d, %d, want %d, OK", next, e, n+1)
	}
	wantTicket(t, s, 1, 0, 0, 0)
	wantGrant(t, s, 1, n+1, 1, "next")
	d.Crash(-1)
	s = openOn(t, d, wideConfig())
	wantState(t, s, n+1, api.Pending, 1)
	wantNoTask(t, s, n+2)
}

// TestP15CrashesWithinOpen lets the device die within Open again and again.
func TestP15CrashesWithinOpen(t *testing.T) {
	for keep := range 80 {
		d := newDevice(t, api.MaxQuota)
		s := openOn(t, d, wideConfig())
		wantTaken(t, s, 1, api.Task{Key: "a"})
		d.Fuse(1)
		wantRefused(t, s, api.Task{Key: "b"}, api.ErrDead)
		d.Crash(keep)
		for range 3 {
			d.Fuse(0)
			opened, e := handout.Open(d, wideConfig())
			if e != api.OK && e != api.ErrDead || (opened != nil) != (e == api.OK) {
				t.Fatalf("Open with %d bytes kept = %v, %d", keep, opened, e)
			}
			d.Crash(keep)
		}
		s = openOn(t, d, wideConfig())
		wantState(t, s, 1, api.Pending, 0)
		next := 2
		if _, _, e := s.State(2); e == api.OK {
			next = 3
		}
		wantTaken(t, s, next, api.Task{Key: "c"})
		d.Crash(-1)
		s = openOn(t, d, wideConfig())
		wantState(t, s, next, api.Pending, 0)
		wantNoTask(t, s, next+1)
	}
}

// TestP15EveryBeginningOfTheBytes opens a service on every beginning of what
// services have written by Append alone, which is what a crash can leave: of
// each byte more comes back as much, or what one call more has done.
func TestP15EveryBeginningOfTheBytes(t *testing.T) {
	d := newDevice(t, api.MaxQuota)
	s := openOn(t, d, lastOf(wideConfig()))
	after := [][4]int{{}}
	then := func() { after = append(after, tasksOf(s)) }
	grant := func(ticket, id int) int { return wantGrant(t, s, ticket, id, 1, greatTask().Payload) }
	for id := 1; id <= 3; id++ {
		wantTaken(t, s, id, greatTask())
		then()
		wantTicket(t, s, 3*id-2, 0, 0, api.MaxWorker)
		then()
		wantErrno(t, "Fail", s.Fail(id, grant(3*id-2, id)), api.OK)
		wantRequeued(t, s, id)
		then()
		wantTicket(t, s, 3*id-1, 0, 0, 0)
		then()
		wantErrno(t, "Fail", s.Fail(id, grant(3*id-1, id)), api.OK)
		wantTicket(t, s, 3*id, 0, 0, 0)
		wantRequeued(t, s, id) // it is handed out within this call, so that the next service has it as before
		wantErrno(t, "Complete", s.Complete(id, grant(3*id, id)), api.OK)
		then()
	}
	bytes, _ := d.Read()
	call := 0
	for cut := range len(bytes) + 1 {
		d := newDevice(t, cut)
		wantErrno(t, "Swap", d.Swap(bytes[:cut]), api.OK)
		got := tasksOf(openOn(t, d, wideConfig()))
		if call+1 < len(after) && got == after[call+1] {
			call++
		}
		if got != after[call] {
			t.Fatalf("of %d bytes comes back %v, behind %v", cut, got, after[call])
		}
	}
	if call != len(after)-1 {
		t.Errorf("of all bytes comes back %v", after[call])
	}
}

// tasksOf counts a service's tasks: all, how often they were handed out, those
// that are done, and those that are dead (as every leased one is behind a crash,
// by a config of one attempt).
func tasksOf(s *handout.Service) [4]int {
	var n [4]int
	for id := 1; ; id++ {
		where, times, e := s.State(id)
		if e != api.OK {
			return n
		}
		n[0]++
		n[1] += times
		switch where {
		case api.Done:
			n[2]++
		case api.Dead, api.Leased:
			n[3]++
		}
	}
}
