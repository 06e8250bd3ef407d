package handout_test

import (
	"math"
	"testing"

	"handout/api"
	"handout/handout"
	"handout/journal"
)

func wantTick(t *testing.T, s *handout.Service, n int) {
	t.Helper()
	wantErrno(t, "Tick", s.Tick(n), api.OK)
}

// leasesOf are the three calls by a token.
func leasesOf(s *handout.Service) map[string]func(id, token int) api.Errno {
	return map[string]func(id, token int) api.Errno{"Complete": s.Complete, "Beat": s.Beat, "Fail": s.Fail}
}

// wantStale makes the three calls by a token that holds nothing: they answer
// ErrStale, and neither write nor change anything.
func wantStale(t *testing.T, when string, d *handout.Device, s *handout.Service, id int, tokens ...int) {
	t.Helper()
	where, times, _ := s.State(id)
	d.Fuse(0)
	for _, token := range tokens {
		for name, call := range leasesOf(s) {
			wantErrno(t, name+", "+when, call(id, token), api.ErrStale)
		}
	}
	d.Fuse(-1)
	wantState(t, s, id, where, times)
}

// leased makes a poll, which gets this task, and tells the token.
func leased(t *testing.T, s *handout.Service, id, attempt int) int {
	t.Helper()
	ticket, e := s.Poll(0, 0, 0)
	wantErrno(t, "Poll", e, api.OK)
	g, e := s.Finish(ticket)
	if g.ID != id || g.Attempt != attempt || g.Token < 1 || e != api.OK {
		t.Fatalf("Finish(%d) = %+v, %d, want the task %d, attempt %d", ticket, g, e, id, attempt)
	}
	return g.Token
}

// TestP11WhereALeaseLeavesItsTask ends leases in the three ways, one after the other.
func TestP11WhereALeaseLeavesItsTask(t *testing.T) {
	for attempts := 1; attempts <= api.MaxAttempts; attempts++ {
		for first := range 3 {
			d := newDevice(t, api.MaxQuota)
			c := wideConfig()
			c.Attempts, c.Lease = attempts, 2
			s := openOn(t, d, c)
			wantTaken(t, s, 1, api.Task{Key: "k"})
			for times := 1; times <= attempts; times++ {
				token := leased(t, s, 1, times)
				switch (first + times) % 3 {
				case 0:
					wantErrno(t, "Fail", s.Fail(1, token), api.OK)
				case 1:
					wantTick(t, s, 2)
				default:
					s = openOn(t, d, c)
				}
				wantState(t, s, 1, []int{api.Pending, api.Dead}[times/attempts], times)
			}
			wantPolled(t, s, 0, 0)
			wantTick(t, s, 100)
			wantState(t, s, 1, api.Dead, attempts)
			wantState(t, openOn(t, d, wideConfig()), 1, api.Dead, attempts)
		}
	}
}

func TestP11AttemptsOfTheLastLeasesConfig(t *testing.T) {
	few, many := wideConfig(), wideConfig()
	few.Attempts, many.Attempts, few.Lease, many.Lease = 2, 4, 1, 1
	d := newDevice(t, api.MaxQuota)
	s := openOn(t, d, many)
	wantTaken(t, s, 1, api.Task{Key: "k"})
	for times := 1; times <= 3; times++ {
		wantErrno(t, "Fail", s.Fail(1, leased(t, s, 1, times)), api.OK)
		wantState(t, s, 1, api.Pending, times)
	}
	// Handed out 3 times of 4: 2 would be too many, but it was not handed out by this config.
	s = openOn(t, d, few)
	wantState(t, s, 1, api.Pending, 3)
	wantTaken(t, s, 2, api.Task{Key: "k"})
	leased(t, s, 1, 4)
	leased(t, s, 2, 1)
	wantTick(t, s, 1)
	wantState(t, s, 1, api.Dead, 4)
	wantState(t, s, 2, api.Pending, 1)
	s = openOn(t, d, many)
	for times := 2; times <= 3; times++ {
		leased(t, s, 2, times)
		wantTick(t, s, 1)
		wantState(t, s, 2, api.Pending, times)
	}
	wantState(t, s, 1, api.Dead, 4)
}

func TestP12NoSuchTask(t *testing.T) {
	d := newDevice(t, api.MaxQuota)
	s := openOn(t, d, goodConfig())
	for taken := range 3 {
		for _, id := range []int{math.MinInt, -1, 0, taken + 1, taken + 2, api.MaxTasks, api.MaxTasks + 1, math.MaxInt} {
			for name, call := range leasesOf(s) {
				for _, token := range []int{math.MinInt, 0, 1, math.MaxInt} {
					wantErrno(t, name+" of no task", call(id, token), api.ErrTask)
				}
			}
		}
		wantTaken(t, s, taken+1, api.Task{Key: "k"})
		leased(t, s, taken+1, 1)
		wantTick(t, s, 1)
	}
}

func TestP12TokensThatHoldNothing(t *testing.T) {
	d := newDevice(t, api.MaxQuota)
	c := wideConfig()
	c.Lease = 2
	s := openOn(t, d, c)
	wantTaken(t, s, 1, api.Task{Key: "a", Payload: "one"})
	wantTaken(t, s, 2, api.Task{Key: "b"})
	wantStale(t, "never handed out", d, s, 1, math.MinInt, -1, 0, 1, 2, math.MaxInt)
	one := leased(t, s, 1, 1)
	two := leased(t, s, 2, 1)
	wantErrno(t, "Fail", s.Fail(2, two), api.OK)
	wantStale(t, "given back", d, s, 2, two, 0)
	two = leased(t, s, 2, 2)
	wantStale(t, "by another token", d, s, 1, math.MinInt, -one, 0, one+1, one-1, math.MaxInt)
	if one != two { // those of two tasks may be the same
		wantStale(t, "by another task's token", d, s, 1, two)
	}
	wantErrno(t, "Beat", s.Beat(1, one), api.OK)
	wantErrno(t, "Complete", s.Complete(2, two), api.OK)
	wantStale(t, "done", d, s, 2, two, 0, two+1)
	wantTick(t, s, 2)
	wantStale(t, "gone by", d, s, 1, one)
	again := leased(t, s, 1, 2)
	wantStale(t, "by the token of the lease before", d, s, 1, one)
	s = openOn(t, d, c)
	wantStale(t, "from before Open", d, s, 1, one, again)
	wantStale(t, "done before Open", d, s, 2, two)
	third := leased(t, s, 1, 3)
	wantStale(t, "handed out again behind Open", d, s, 1, one, again)
	wantErrno(t, "Complete", s.Complete(1, third), api.OK)
}

func TestP12TokensOfTheDead(t *testing.T) {
	d := newDevice(t, api.MaxQuota)
	c := wideConfig()
	c.Attempts, c.Lease = 1, 1
	s := openOn(t, d, c)
	wantTaken(t, s, 1, api.Task{Key: "k"})
	token := leased(t, s, 1, 1)
	wantTick(t, s, 1)
	wantState(t, s, 1, api.Dead, 1)
	wantStale(t, "dead", d, s, 1, token, 0, token+1)
}

// TestP12StaleBeatLeavesTheLease: a wrong token does not let a lease last longer.
func TestP12StaleBeatLeavesTheLease(t *testing.T) {
	d := newDevice(t, api.MaxQuota)
	s := openOn(t, d, goodConfig())
	wantTaken(t, s, 1, api.Task{Key: "k"})
	token := leased(t, s, 1, 1)
	wantTick(t, s, 2)
	wantStale(t, "by another token", d, s, 1, token+1)
	wantTick(t, s, 1)
	wantState(t, s, 1, api.Pending, 1)
}

func TestP12DoneStaysSo(t *testing.T) {
	for _, quota := range []int{journal.Size(2), journal.Size(2) + 9, api.MaxQuota} {
		d := newDevice(t, quota)
		c := wideConfig()
		c.Attempts, c.Lease = 2, 1
		s := openOn(t, d, c)
		wantTaken(t, s, 1, api.Task{Key: "a", Priority: 9})
		wantTaken(t, s, 2, api.Task{Key: "a"})
		wantErrno(t, "Fail", s.Fail(1, leased(t, s, 1, 1)), api.OK)
		wantErrno(t, "Complete", s.Complete(1, leased(t, s, 1, 2)), api.OK) // at the last attempt
		wantState(t, s, 1, api.Done, 2)
		wantErrno(t, "Complete", s.Complete(2, leased(t, s, 2, 1)), api.OK)
		for _, attempts := range []int{1, 2, 3, 5} {
			wantPolled(t, s, 0, 0)
			wantTick(t, s, 100)
			wantState(t, s, 1, api.Done, 2)
			wantState(t, s, 2, api.Done, 1)
			d.Crash(0)
			c.Attempts = attempts
			s = openOn(t, d, c)
			wantState(t, s, 1, api.Done, 2)
			wantState(t, s, 2, api.Done, 1)
		}
	}
}

// TestP12CompleteIsOfOneTask leaves the others as they are.
func TestP12CompleteIsOfOneTask(t *testing.T) {
	d := newDevice(t, api.MaxQuota)
	s := openOn(t, d, wideConfig())
	tokens := map[int]int{}
	for id := 1; id <= 4; id++ {
		wantTaken(t, s, id, api.Task{Key: "k"})
		if id < 4 {
			tokens[id] = leased(t, s, id, 1)
		}
	}
	wantErrno(t, "Complete", s.Complete(2, tokens[2]), api.OK)
	for id, where := range []int{1: api.Leased, 2: api.Done, 3: api.Leased} {
		if id > 0 {
			wantState(t, s, id, where, 1)
		}
	}
	wantState(t, s, 4, api.Pending, 0)
	d.Crash(0)
	s = openOn(t, d, wideConfig())
	wantState(t, s, 1, api.Pending, 1)
	wantState(t, s, 2, api.Done, 1)
	wantState(t, s, 3, api.Pending, 1)
	wantState(t, s, 4, api.Pending, 0)
	wantPolled(t, s, 0, 1, 3, 4, 0)
}

func TestP12BeatLetsALeaseLast(t *testing.T) {
	for _, lease := range []int{1, 2, 3, api.MaxTicks} {
		c := goodConfig()
		c.Lease = lease
		d := newDevice(t, api.MaxQuota)
		s := openOn(t, d, c)
		wantTaken(t, s, 1, api.Task{Key: "k"})
		token := leased(t, s, 1, 1)
		bytes, _ := d.Read()
		for range 5 {
			wantTick(t, s, lease-1)
			wantState(t, s, 1, api.Leased, 1)
			d.Fuse(0) // it changes nothing on the device
			wantErrno(t, "Beat", s.Beat(1, token), api.OK)
			wantErrno(t, "Beat, once more", s.Beat(1, token), api.OK)
			d.Fuse(-1)
		}
		wantBytes(t, d, bytes, len(bytes))
		wantTick(t, s, lease-1)
		wantState(t, s, 1, api.Leased, 1)
		wantTick(t, s, 1)
		wantState(t, s, 1, api.Pending, 1)
	}
}

// TestP12BeatIsOfOneLease: it lasts from now on, and the others go by.
func TestP12BeatIsOfOneLease(t *testing.T) {
	d := newDevice(t, api.MaxQuota)
	s := openOn(t, d, goodConfig()) // a lease of 3 ticks
	wantTaken(t, s, 1, api.Task{Key: "a"})
	wantTaken(t, s, 2, api.Task{Key: "b"})
	one := leased(t, s, 1, 1)
	leased(t, s, 2, 1)
	wantTick(t, s, 1)
	wantErrno(t, "Beat", s.Beat(1, one), api.OK)
	wantTick(t, s, 2)
	wantState(t, s, 1, api.Leased, 1)
	wantState(t, s, 2, api.Pending, 1)
	wantTick(t, s, 1)
	wantState(t, s, 1, api.Pending, 1)
}

func TestP12BeatOutlastsNoCrash(t *testing.T) {
	d := newDevice(t, api.MaxQuota)
	s := openOn(t, d, goodConfig())
	wantTaken(t, s, 1, api.Task{Key: "k"})
	token := leased(t, s, 1, 1)
	wantErrno(t, "Beat", s.Beat(1, token), api.OK)
	d.Crash(0)
	s = openOn(t, d, goodConfig())
	wantState(t, s, 1, api.Pending, 1)
	wantStale(t, "behind a crash", d, s, 1, token)
}

func TestP12FailServesThePolls(t *testing.T) {
	s := newService(t, wideConfig())
	wantTaken(t, s, 1, api.Task{Key: "k", Payload: "x"})
	first := leased(t, s, 1, 1)
	wantTicket(t, s, 2, 1, 0, 0)
	wantTicket(t, s, 3, 0, 0, 0)
	wantTicket(t, s, 4, 0, 0, 0)
	wantNoGrant(t, s, 3, api.ErrWait)
	wantErrno(t, "Fail", s.Fail(1, first), api.OK)
	wantState(t, s, 1, api.Leased, 2)
	wantNoGrant(t, s, 2, api.ErrWait)
	wantNoGrant(t, s, 4, api.ErrWait)
	second := wantGrant(t, s, 3, 1, 2, "x")
	if first == second {
		t.Errorf("two leases have the token %d", first)
	}
	wantErrno(t, "Fail by the first token", s.Fail(1, first), api.ErrStale)
	wantErrno(t, "Fail by the second token", s.Fail(1, second), api.OK)
	wantGrant(t, s, 4, 1, 3, "x")
}

// TestP12FailAtTheLastAttempt serves nobody with what is dead.
func TestP12FailAtTheLastAttempt(t *testing.T) {
	c := wideConfig()
	c.Attempts = 1
	s := newService(t, c)
	wantTaken(t, s, 1, api.Task{Key: "k"})
	token := leased(t, s, 1, 1)
	wantTicket(t, s, 2, 0, 0, 0)
	wantErrno(t, "Fail", s.Fail(1, token), api.OK)
	wantState(t, s, 1, api.Dead, 1)
	wantNoGrant(t, s, 2, api.ErrWait)
}

// TestP12FailGivesNoRoomBack: room is for handing out, whatever comes of it.
func TestP12FailGivesNoRoomBack(t *testing.T) {
	c := wideConfig()
	c.Rate, c.Burst = 1, 1
	s := newService(t, c)
	wantTaken(t, s, 1, api.Task{Key: "k"})
	token := leased(t, s, 1, 1)
	wantTicket(t, s, 2, 0, 0, 0)
	wantErrno(t, "Fail", s.Fail(1, token), api.OK)
	wantState(t, s, 1, api.Pending, 1)
	wantNoGrant(t, s, 2, api.ErrWait)
	wantTick(t, s, 1)
	wantGrant(t, s, 2, 1, 2, "")
}

// TestP12FailLeavesTheBond: a bond is over when its ticks have gone by, not when a lease is.
func TestP12FailLeavesTheBond(t *testing.T) {
	c := wideConfig()
	c.Bond = 2
	s := newService(t, c)
	wantTaken(t, s, 1, api.Task{Key: "k", Worker: 5})
	wantTicket(t, s, 1, 0, 0, 5)
	token := wantGrant(t, s, 1, 1, 1, "")
	wantTicket(t, s, 2, 0, 0, 6)
	wantErrno(t, "Fail", s.Fail(1, token), api.OK)
	wantTick(t, s, 1)
	wantNoGrant(t, s, 2, api.ErrWait)
	wantTick(t, s, 1)
	wantGrant(t, s, 2, 1, 2, "")
}

// TestP8OnlyEnqueueAnswersErrFull: on a device that has room for its tasks and
// no byte more, everything else goes on.
func TestP8OnlyEnqueueAnswersErrFull(t *testing.T) {
	for _, more := range []int{0, 1, 8, 9, 10, 40} {
		d := newDevice(t, journal.Size(3)+more)
		c := wideConfig()
		c.Lease = 1
		s := openOn(t, d, c)
		for id := 1; id <= 3; id++ {
			wantTaken(t, s, id, api.Task{Key: "k"})
		}
		wantRefused(t, s, api.Task{Key: "k"}, api.ErrFull)
		for times := 1; times <= 4; times++ {
			tokens := []int{leased(t, s, 1, times), leased(t, s, 2, times), leased(t, s, 3, times)}
			for i, token := range tokens {
				wantErrno(t, "Beat", s.Beat(i+1, token), api.OK)
				if times%2 == 0 {
					wantErrno(t, "Fail", s.Fail(i+1, token), api.OK)
				}
			}
			wantTick(t, s, 1)
			wantRefused(t, s, api.Task{Key: "k"}, api.ErrFull)
		}
		for id := 1; id <= 3; id++ {
			wantErrno(t, "Complete", s.Complete(id, leased(t, s, id, 5)), api.OK)
		}
		wantRefused(t, s, api.Task{Key: "k"}, api.ErrFull)
		d.Crash(0)
		s = openOn(t, d, c)
		for id := 1; id <= 3; id++ {
			wantState(t, s, id, api.Done, 5)
		}
		wantRefused(t, s, api.Task{Key: "k"}, api.ErrFull)
	}
}

// TestP10TokensOverALifetime ends leases in every way, and asks for other tokens.
func TestP10TokensOverALifetime(t *testing.T) {
	c := wideConfig()
	c.Lease = 1
	d := newDevice(t, journal.Size(1))
	s := openOn(t, d, c)
	wantTaken(t, s, 1, api.Task{Key: "k"})
	tokens := map[int]int{}
	for times := 1; times <= api.MaxAttempts; times++ {
		token := leased(t, s, 1, times)
		tokens[token]++
		switch times {
		case 1:
			wantTick(t, s, 1)
		case 2:
			wantErrno(t, "Fail", s.Fail(1, token), api.OK)
		case 3:
			s = openOn(t, d, c)
		case 4:
			d.Crash(0)
			s = openOn(t, d, c)
		}
	}
	if len(tokens) != api.MaxAttempts {
		t.Errorf("%d leases have the tokens %v", api.MaxAttempts, tokens)
	}
}
