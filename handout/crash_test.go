package handout_test

import (
	"testing"

	"handout/api"
	"handout/handout"
)

// dying is a run of calls up to one within which the device dies.
type dying struct {
	name  string
	quota int
	// before makes all calls but the last one.
	before func(t *testing.T, s *handout.Service)
	last   func(s *handout.Service) api.Errno
	// Where the tasks are, and how often they were handed out: if the last
	// call never was, and if it was done.
	old, done [][2]int
}

func dyings() []dying {
	enqueue := func(s *handout.Service) api.Errno {
		id, e := s.Enqueue(api.Task{Key: "k", Payload: "last"})
		if id != 0 && e != api.OK {
			return -1
		}
		return e
	}
	poll := func(s *handout.Service) api.Errno {
		ticket, e := s.Poll(0, 0, 0)
		if ticket != 0 && e != api.OK {
			return -1
		}
		return e
	}
	three := func(t *testing.T, s *handout.Service) {
		wantTaken(t, s, 1, api.Task{Key: "a"})
		wantPolled(t, s, 0, 1)
		wantTaken(t, s, 2, api.Task{Key: "b", Payload: "two"})
	}
	waiting := func(t *testing.T, s *handout.Service) {
		wantTaken(t, s, 1, api.Task{Key: "a"})
		wantPolled(t, s, 0, 1)
		wantTicket(t, s, 2, 0, 0, 0)
		wantTicket(t, s, 3, 0, 0, 0)
	}
	none := func(t *testing.T, s *handout.Service) {}
	p := api.Pending
	return []dying{
		{"Enqueue on a new device", api.MaxQuota, none, enqueue, nil, [][2]int{{p, 0}}},
		{"Enqueue on a device for one", 76, none, enqueue, nil, [][2]int{{p, 0}}},
		{"Enqueue", api.MaxQuota, three, enqueue, [][2]int{{p, 1}, {p, 0}}, [][2]int{{p, 1}, {p, 0}, {p, 0}}},
		{"Enqueue that is handed out", api.MaxQuota, waiting, enqueue, [][2]int{{p, 1}}, [][2]int{{p, 1}, {p, 1}}},
		{"Enqueue on a device that is full", 202, three, enqueue, [][2]int{{p, 1}, {p, 0}}, [][2]int{{p, 1}, {p, 0}, {p, 0}}},
		{"Enqueue that is handed out on a full device", 139, waiting, enqueue, [][2]int{{p, 1}}, [][2]int{{p, 1}, {p, 1}}},
		{"Poll", api.MaxQuota, three, poll, [][2]int{{p, 1}, {p, 0}}, [][2]int{{p, 1}, {p, 1}}},
		{"Poll on a device that is full", 153, three, poll, [][2]int{{p, 1}, {p, 0}}, [][2]int{{p, 1}, {p, 1}}},
		{"Poll for nothing", api.MaxQuota, waiting, poll, [][2]int{{p, 1}}, [][2]int{{p, 1}}},
	}
}

// has says whether these are all tasks of a service.
func has(s *handout.Service, tasks [][2]int) bool {
	for i, want := range tasks {
		if where, times, e := s.State(i + 1); where != want[0] || times != want[1] || e != api.OK {
			return false
		}
	}
	_, _, e := s.State(len(tasks) + 1)
	return e == api.ErrTask
}

// TestP15DiedWithinACall lets the device die at every change of a call, and
// keeps of what was not safe every number of bytes.
func TestP15DiedWithinACall(t *testing.T) {
	for _, c := range dyings() {
		seen := map[api.Errno]int{}
		for fuse := range 4 {
			for keep := -1; keep < 100; keep++ {
				d := newDevice(t, c.quota)
				s := openOn(t, d, wideConfig())
				c.before(t, s)
				d.Fuse(fuse)
				e := c.last(s)
				seen[e]++
				d.Crash(keep)
				s = openOn(t, d, wideConfig())
				whole := has(s, c.done)
				if e == api.OK && !whole || e != api.OK && e != api.ErrDead || !whole && !has(s, c.old) {
					t.Errorf("%s, behind a fuse of %d, %d bytes kept: answered %d, done: %t", c.name, fuse, keep, e, whole)
				}
				wantWorks(t, d, s, len(c.old), len(c.done), whole)
			}
		}
		if c.name != "Poll for nothing" && seen[api.ErrDead] == 0 || seen[api.OK] == 0 {
			t.Errorf("%s: answered %v", c.name, seen)
		}
	}
}

// wantWorks lets the service that was opened behind the crash go on.
func wantWorks(t *testing.T, d *handout.Device, s *handout.Service, old, done int, whole bool) {
	t.Helper()
	n := old
	if whole {
		n = done
	}
	next, e := s.Enqueue(api.Task{Key: "next", Priority: 9, Payload: "next"})
	if e == api.ErrFull {
		d.Crash(-1)
		wantNoTask(t, openOn(t, d, wideConfig()), n+1)
		return
	}
	if next != n+1 || e != api.OK {
		t.Errorf("the next Enqueue = %d, %d, want %d, OK", next, e, n+1)
	}
	wantTicket(t, s, 1, 0, 0, 0)
	wantGrant(t, s, 1, n+1, 1, "next")
	d.Crash(-1)
	s = openOn(t, d, wideConfig())
	wantState(t, s, n+1, api.Pending, 1)
	wantNoTask(t, s, n+2)
}

// TestP15CrashesWithinOpen lets the device die within Open again and again.
func TestP15CrashesWithinOpen(t *testing.T) {
	for keep := range 80 {
		d := newDevice(t, api.MaxQuota)
		s := openOn(t, d, wideConfig())
		wantTaken(t, s, 1, api.Task{Key: "a"})
		d.Fuse(1)
		wantRefused(t, s, api.Task{Key: "b"}, api.ErrDead)
		d.Crash(keep)
		for range 3 {
			d.Fuse(0)
			opened, e := handout.Open(d, wideConfig())
			if e != api.OK && e != api.ErrDead || (opened != nil) != (e == api.OK) {
				t.Fatalf("Open with %d bytes kept = %v, %d", keep, opened, e)
			}
			d.Crash(keep)
		}
		s = openOn(t, d, wideConfig())
		wantState(t, s, 1, api.Pending, 0)
		next := 2
		if _, _, e := s.State(2); e == api.OK {
			next = 3
		}
		wantTaken(t, s, next, api.Task{Key: "c"})
		d.Crash(-1)
		s = openOn(t, d, wideConfig())
		wantState(t, s, next, api.Pending, 0)
		wantNoTask(t, s, next+1)
	}
}

// TestP15EveryBeginningOfTheBytes opens a service on every beginning of what
// services have written by Append alone, which is what a crash can leave.
func TestP15EveryBeginningOfTheBytes(t *testing.T) {
	d := newDevice(t, api.MaxQuota)
	s := openOn(t, d, wideConfig())
	for id := 1; id <= 3; id++ {
		wantTaken(t, s, id, greatTask())
		wantTicket(t, s, id, 0, 0, api.MaxWorker)
	}
	bytes, _ := d.Read()
	tasks := 0
	for cut := range len(bytes) + 1 {
		d := newDevice(t, cut)
		wantErrno(t, "Swap", d.Swap(bytes[:cut]), api.OK)
		s := openOn(t, d, wideConfig())
		n := 0
		for ; n < 3; n++ {
			if _, _, e := s.State(n + 1); e != api.OK {
				break
			}
		}
		if n < tasks || n > tasks+1 {
			t.Errorf("of %d bytes %d tasks come back, of one byte less %d", cut, n, tasks)
		}
		tasks = n
	}
	if tasks != 3 {
		t.Errorf("of all bytes %d tasks come back", tasks)
	}
}
