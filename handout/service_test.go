package handout_test

import (
	"testing"

	"handout/api"
	"handout/handout"
)

// openOn opens a service that must be to be had.
func openOn(t *testing.T, d *handout.Device, c api.Config) *handout.Service {
	t.Helper()
	s, e := handout.Open(d, c)
	if s == nil || e != api.OK {
		t.Fatalf("Open by %+v = %v, %d, want a service", c, s, e)
	}
	return s
}

// newService opens a service on a new device.
func newService(t *testing.T, c api.Config) *handout.Service {
	t.Helper()
	return openOn(t, newDevice(t, api.MaxQuota), c)
}

// wideConfig lets everything through that a config can.
func wideConfig() api.Config {
	return api.Config{
		Queues: api.MaxQueues, Parts: 1, Rate: api.MaxRate, Burst: api.MaxBurst,
		Attempts: api.MaxAttempts, Lease: api.MaxTicks, Wait: api.MaxTicks, Bond: api.MaxTicks,
	}
}

func wantTaken(t *testing.T, s *handout.Service, id int, x api.Task) {
	t.Helper()
	if got, e := s.Enqueue(x); got != id || e != api.OK {
		t.Errorf("Enqueue(%+v) = %d, %d, want %d, OK", x, got, e, id)
	}
}

func wantRefused(t *testing.T, s *handout.Service, x api.Task, want api.Errno) {
	t.Helper()
	if got, e := s.Enqueue(x); got != 0 || e != want {
		t.Errorf("Enqueue(%+v) = %d, %d, want 0, %d", x, got, e, want)
	}
}

func wantState(t *testing.T, s *handout.Service, id, where, times int) {
	t.Helper()
	gotWhere, gotTimes, e := s.State(id)
	if gotWhere != where || gotTimes != times || e != api.OK {
		t.Errorf("State(%d) = %d, %d, %d, want %d, %d, OK", id, gotWhere, gotTimes, e, where, times)
	}
}

func wantNoTask(t *testing.T, s *handout.Service, ids ...int) {
	t.Helper()
	for _, id := range ids {
		if where, times, e := s.State(id); where != 0 || times != 0 || e != api.ErrTask {
			t.Errorf("State(%d) = %d, %d, %d, want 0, 0, ErrTask", id, where, times, e)
		}
	}
}

func wantTicket(t *testing.T, s *handout.Service, ticket, queue, part, worker int) {
	t.Helper()
	if got, e := s.Poll(queue, part, worker); got != ticket || e != api.OK {
		t.Errorf("Poll(%d, %d, %d) = %d, %d, want %d, OK", queue, part, worker, got, e, ticket)
	}
}

func wantNoTicket(t *testing.T, s *handout.Service, queue, part, worker int, want api.Errno) {
	t.Helper()
	if got, e := s.Poll(queue, part, worker); got != 0 || e != want {
		t.Errorf("Poll(%d, %d, %d) = %d, %d, want 0, %d", queue, part, worker, got, e, want)
	}
}

// wantGrant finishes a poll that got a task, and tells the token.
func wantGrant(t *testing.T, s *handout.Service, ticket, id, attempt int, payload string) int {
	t.Helper()
	g, e := s.Finish(ticket)
	if g.ID != id || g.Attempt != attempt || g.Payload != payload || g.Token < 1 || e != api.OK {
		t.Errorf("Finish(%d) = %+v, %d, want the task %d, attempt %d, %q", ticket, g, e, id, attempt, payload)
	}
	return g.Token
}

func wantNoGrant(t *testing.T, s *handout.Service, ticket int, want api.Errno) {
	t.Helper()
	if g, e := s.Finish(ticket); g != (api.Grant{}) || e != want {
		t.Errorf("Finish(%d) = %+v, %d, want nothing, %d", ticket, g, e, want)
	}
}

// polled makes a poll and finishes it: the number of the task, 0 if there is none.
func polled(t *testing.T, s *handout.Service, queue, part, worker int) int {
	t.Helper()
	ticket, e := s.Poll(queue, part, worker)
	if e != api.OK {
		t.Fatalf("Poll(%d, %d, %d) = %d, %d", queue, part, worker, ticket, e)
	}
	g, _ := s.Finish(ticket)
	return g.ID
}

// wantPolled makes polls of a queue's first partition and holds the tasks that come against these.
func wantPolled(t *testing.T, s *handout.Service, queue int, ids ...int) {
	t.Helper()
	for i, id := range ids {
		if got := polled(t, s, queue, 0, 0); got != id {
			t.Errorf("the poll %d of the queue %d got the task %d, want %d of %v", i+1, queue, got, id, ids)
		}
	}
}

// calls are all calls of a service: what they answer, and whether something stands beside it.
func calls() map[string]func(*handout.Service) (api.Errno, bool) {
	return map[string]func(*handout.Service) (api.Errno, bool){
		"Enqueue": func(s *handout.Service) (api.Errno, bool) {
			id, e := s.Enqueue(api.Task{Key: "k"})
			return e, id != 0
		},
		"Enqueue of no task": func(s *handout.Service) (api.Errno, bool) {
			id, e := s.Enqueue(api.Task{Queue: -1})
			return e, id != 0
		},
		"State": func(s *handout.Service) (api.Errno, bool) {
			where, times, e := s.State(1)
			return e, where != 0 || times != 0
		},
		"State of no task": func(s *handout.Service) (api.Errno, bool) {
			where, times, e := s.State(99)
			return e, where != 0 || times != 0
		},
		"Poll": func(s *handout.Service) (api.Errno, bool) {
			ticket, e := s.Poll(0, 0, 0)
			return e, ticket != 0
		},
		"Poll of nothing": func(s *handout.Service) (api.Errno, bool) {
			ticket, e := s.Poll(-1, -1, -1)
			return e, ticket != 0
		},
		"Finish": func(s *handout.Service) (api.Errno, bool) {
			g, e := s.Finish(1)
			return e, g != api.Grant{}
		},
		"Finish of no ticket": func(s *handout.Service) (api.Errno, bool) {
			g, e := s.Finish(99)
			return e, g != api.Grant{}
		},
		"Complete":            func(s *handout.Service) (api.Errno, bool) { return s.Complete(1, 1), false },
		"Complete of no task": func(s *handout.Service) (api.Errno, bool) { return s.Complete(99, 1), false },
		"Beat":                func(s *handout.Service) (api.Errno, bool) { return s.Beat(1, 1), false },
		"Beat of no task":     func(s *handout.Service) (api.Errno, bool) { return s.Beat(99, 1), false },
		"Fail":                func(s *handout.Service) (api.Errno, bool) { return s.Fail(1, 1), false },
		"Fail of no task":     func(s *handout.Service) (api.Errno, bool) { return s.Fail(99, 1), false },
		"Tick":                func(s *handout.Service) (api.Errno, bool) { return s.Tick(1), false },
		"Tick of no ticks":    func(s *handout.Service) (api.Errno, bool) { return s.Tick(-1), false },
		"Buried": func(s *handout.Service) (api.Errno, bool) {
			ids, e := s.Buried(0)
			return e, len(ids) != 0
		},
		"Buried of no queue": func(s *handout.Service) (api.Errno, bool) {
			ids, e := s.Buried(-1)
			return e, len(ids) != 0
		},
		"Requeue":            func(s *handout.Service) (api.Errno, bool) { return s.Requeue(1), false },
		"Requeue of no task": func(s *handout.Service) (api.Errno, bool) { return s.Requeue(99), false },
	}
}

// wantAll asks every call of a service for this error, and for nothing beside it.
func wantAll(t *testing.T, when string, s *handout.Service, want api.Errno) {
	t.Helper()
	for name, call := range calls() {
		if e, more := call(s); e != want || more {
			t.Errorf("%s, %s = %d, want %d (and nothing beside it: %t)", name, when, e, want, !more)
		}
	}
}
