package handout_test

import (
	"math"
	"testing"

	"handout/api"
)

func TestP13WhatAreNoTicks(t *testing.T) {
	c := goodConfig()
	c.Rate, c.Burst, c.Lease, c.Wait = 1, 1, 1, 1
	d := newDevice(t, api.MaxQuota)
	s := openOn(t, d, c)
	wantTaken(t, s, 1, api.Task{Key: "k"})
	wantTaken(t, s, 2, api.Task{Key: "k"})
	leased(t, s, 1, 1)
	wantTicket(t, s, 2, 0, 0, 0)
	d.Fuse(0)
	for _, n := range []int{math.MinInt, -101, -1, api.MaxTicks + 1, math.MaxInt} {
		wantErrno(t, "Tick", s.Tick(n), api.ErrArg)
	}
	wantErrno(t, "Tick of none", s.Tick(0), api.OK) // no room, nothing over, nobody ended
	wantState(t, s, 1, api.Leased, 1)
	wantState(t, s, 2, api.Pending, 0)
	wantNoGrant(t, s, 2, api.ErrWait)
	wantErrno(t, "Tick behind the fuse", s.Tick(1), api.ErrDead)
	wantErrno(t, "Tick, dead", s.Tick(-1), api.ErrDead)
	d.Crash(0)
	wantErrno(t, "Tick, closed", s.Tick(-1), api.ErrClosed)
	wantErrno(t, "Tick of all", openOn(t, d, c).Tick(api.MaxTicks), api.OK)
}

// TestP13RoomByTicks lets ticks go by and polls till there is no room.
func TestP13RoomByTicks(t *testing.T) {
	for _, c := range []struct{ rate, burst, ticks, room int }{
		{0, 1, 100, 0}, {0, 20, 100, 0}, {1, 1, 0, 0}, {1, 1, 1, 1}, {1, 1, 100, 1}, {1, 5, 4, 4}, {1, 5, 5, 5}, {1, 5, 6, 5},
		{2, 3, 1, 2}, {2, 3, 2, 3}, {9, 1, 1, 1}, {9, 20, 1, 9}, {9, 20, 2, 18}, {9, 20, 3, 20}, {9, 20, 100, 20},
	} {
		k := wideConfig()
		k.Rate, k.Burst, k.Wait, k.Queues = c.rate, c.burst, 0, 2
		s := newService(t, k)
		for id := 1; id <= 130; id++ {
			wantTaken(t, s, id, api.Task{Key: "k", Queue: id % 2})
		}
		handed := func(queue int) int {
			n := 0
			for polled(t, s, queue, 0, 0) > 0 {
				n++
			}
			return n
		}
		if n := handed(0); n != c.burst {
			t.Errorf("%+v: at first the queue hands out %d", c, n)
		}
		wantTick(t, s, c.ticks)
		if n, other := handed(0), handed(1); n != c.room || other != c.burst {
			t.Errorf("%+v: %d are handed out, and %d by the other queue", c, n, other)
		}
		for range c.ticks {
			wantTick(t, s, 1) // the same, one by one
		}
		if n, other := handed(0), handed(1); n != c.room || other != c.room {
			t.Errorf("%+v, one by one: %d are handed out, and %d by the other queue", c, n, other)
		}
	}
}

// TestP13TicksGoByOneAfterTheOther: three polls get three tasks by a burst of one.
func TestP13TicksGoByOneAfterTheOther(t *testing.T) {
	c := wideConfig()
	c.Rate, c.Burst, c.Lease = 1, 1, 2
	s := newService(t, c)
	for id := 1; id <= 4; id++ {
		wantTaken(t, s, id, api.Task{Key: "k", Payload: string(rune('0' + id))})
	}
	leased(t, s, 1, 1)
	for ticket := 2; ticket <= 5; ticket++ {
		wantTicket(t, s, ticket, 0, 0, 0)
	}
	wantTick(t, s, 3)
	// At tick 2 the lease of task 1 is over, and it has the least number of
	// its key; at tick 3 the next one comes.
	wantGrant(t, s, 2, 2, 1, "2")
	wantGrant(t, s, 3, 1, 2, "1")
	wantNoGrant(t, s, 5, api.ErrWait)
	wantGrant(t, s, 4, 2, 2, "2")
	wantState(t, s, 1, api.Leased, 2)
	wantState(t, s, 2, api.Leased, 2)
	wantState(t, s, 3, api.Pending, 0)
	wantTick(t, s, 1)
	wantGrant(t, s, 5, 1, 3, "1")
}

func TestP13LeasesGoBy(t *testing.T) {
	for _, lease := range []int{1, 2, 7, api.MaxTicks} {
		c := wideConfig()
		c.Lease, c.Attempts = lease, 2
		s := newService(t, c)
		wantTick(t, s, 3) // a lease counts from when it began
		wantTaken(t, s, 1, api.Task{Key: "k"})
		for times := 1; times <= 2; times++ {
			leased(t, s, 1, times)
			for range lease - 1 {
				wantTick(t, s, 1)
				wantState(t, s, 1, api.Leased, times)
			}
			wantTick(t, s, 1)
			wantState(t, s, 1, []int{1: api.Pending, 2: api.Dead}[times], times)
		}
	}
}

// TestP13LeaseThatIsOverServesAPoll in the same tick, and the next lease lasts as long.
func TestP13LeaseThatIsOverServesAPoll(t *testing.T) {
	c := wideConfig()
	c.Lease, c.Wait = 3, 3
	s := newService(t, c)
	wantTaken(t, s, 1, api.Task{Key: "k"})
	leased(t, s, 1, 1)
	wantTicket(t, s, 2, 0, 0, 0)
	wantTick(t, s, 2)
	wantNoGrant(t, s, 2, api.ErrWait)
	wantTick(t, s, 1) // the last tick of the poll too
	wantGrant(t, s, 2, 1, 2, "")
	wantTick(t, s, 2)
	wantState(t, s, 1, api.Leased, 2)
	wantTick(t, s, 1)
	wantState(t, s, 1, api.Pending, 2)
}

// TestP13CompletedAndFailedLeasesDoNotGoBy: no end of an old lease touches the task.
func TestP13CompletedAndFailedLeasesDoNotGoBy(t *testing.T) {
	c := wideConfig()
	c.Lease = 3
	s := newService(t, c)
	wantTaken(t, s, 1, api.Task{Key: "k"})
	token := leased(t, s, 1, 1)
	wantTick(t, s, 2)
	wantErrno(t, "Fail", s.Fail(1, token), api.OK)
	token = leased(t, s, 1, 2)
	wantTick(t, s, 1) // the first lease would be over here
	wantState(t, s, 1, api.Leased, 2)
	wantErrno(t, "Complete", s.Complete(1, token), api.OK)
	wantTick(t, s, 5)
	wantState(t, s, 1, api.Done, 2)
}

func TestP13BondsGoBy(t *testing.T) {
	for _, bond := range []int{1, 2, 5, api.MaxTicks} {
		c := wideConfig()
		c.Bond = bond
		s := newService(t, c)
		wantTick(t, s, 3)
		wantTaken(t, s, 1, api.Task{Key: "a", Worker: 5, Priority: 9})
		wantTick(t, s, bond-1)
		if id := polled(t, s, 0, 0, 6); id != 0 {
			t.Errorf("%d ticks before its end a bond of %d lets the worker 6 have the task", 1, bond)
		}
		wantTaken(t, s, 2, api.Task{Key: "b"})
		wantState(t, s, 2, api.Leased, 1) // to the poll above, which waits
		wantTick(t, s, 1)
		wantTicket(t, s, 2, 0, 0, 6)
		wantGrant(t, s, 2, 1, 1, "")
	}
}

// TestP13BondThatIsOverServesAPoll ahead of the poll's end in the same tick.
func TestP13BondThatIsOverServesAPoll(t *testing.T) {
	c := wideConfig()
	c.Bond, c.Wait = 2, 2
	s := newService(t, c)
	wantTaken(t, s, 1, api.Task{Key: "k", Worker: 5, Payload: "x"})
	wantTicket(t, s, 1, 0, 0, 6)
	wantTicket(t, s, 2, 0, 0, 7)
	wantTick(t, s, 1)
	wantNoGrant(t, s, 1, api.ErrWait)
	wantTick(t, s, 1)
	wantGrant(t, s, 1, 1, 1, "x")
	wantNoGrant(t, s, 2, api.ErrNone)
}

func TestP13PollsEnd(t *testing.T) {
	for _, wait := range []int{1, 2, 5, api.MaxTicks} {
		c := wideConfig()
		c.Wait = wait
		s := newService(t, c)
		wantTicket(t, s, 1, 0, 0, 0)
		wantTick(t, s, wait-1)
		wantNoGrant(t, s, 1, api.ErrWait)
		wantTicket(t, s, 2, 0, 0, 0)
		wantTick(t, s, 1)
		if wait > 1 {
			wantNoGrant(t, s, 2, api.ErrWait)
		}
		wantTaken(t, s, 1, api.Task{Key: "k"}) // for the second poll, if that waits: the first has ended
		wantNoGrant(t, s, 1, api.ErrNone)
		wantNoGrant(t, s, 1, api.ErrTicket)
		if wait > 1 {
			wantGrant(t, s, 2, 1, 1, "")
		} else {
			wantState(t, s, 1, api.Pending, 0)
		}
	}
}

// TestP13EndedPollsAreOutStill till somebody finishes them.
func TestP13EndedPollsAreOutStill(t *testing.T) {
	c := goodConfig()
	c.Wait = 1
	s := newService(t, c)
	for ticket := 1; ticket <= api.MaxPolls; ticket++ {
		wantTicket(t, s, ticket, 0, 0, 0)
	}
	wantTick(t, s, 100)
	wantNoTicket(t, s, 0, 0, 0, api.ErrMany)
	for ticket := api.MaxPolls; ticket >= 1; ticket-- {
		wantNoGrant(t, s, ticket, api.ErrNone)
	}
	wantTicket(t, s, api.MaxPolls+1, 0, 0, 0)
}

// TestP13GrantsDoNotEnd: a poll that got its task keeps it, however long nobody asks.
func TestP13GrantsDoNotEnd(t *testing.T) {
	c := goodConfig()
	c.Lease, c.Wait, c.Attempts = 1, 1, 5
	s := newService(t, c)
	wantTaken(t, s, 1, api.Task{Key: "k", Payload: "x"})
	wantTicket(t, s, 1, 0, 0, 0)
	wantTick(t, s, 100)
	wantTicket(t, s, 2, 0, 0, 0)
	first := wantGrant(t, s, 1, 1, 1, "x")
	wantErrno(t, "Complete by the lease that is over", s.Complete(1, first), api.ErrStale)
	wantErrno(t, "Complete", s.Complete(1, wantGrant(t, s, 2, 1, 2, "x")), api.OK)
}

// TestP13TimeStartsAgain with every service that is opened.
func TestP13TimeStartsAgain(t *testing.T) {
	c := wideConfig()
	c.Lease, c.Wait, c.Bond = 5, 5, 5
	d := newDevice(t, api.MaxQuota)
	s := openOn(t, d, c)
	wantTick(t, s, 50)
	wantTaken(t, s, 1, api.Task{Key: "k", Worker: 5})
	wantTicket(t, s, 1, 0, 0, 6)
	wantTick(t, s, 4)
	s = openOn(t, d, c)
	wantTicket(t, s, 1, 1, 0, 0)
	leased(t, s, 1, 1) // the bond is not left
	wantTick(t, s, 4)
	wantState(t, s, 1, api.Leased, 1)
	wantNoGrant(t, s, 1, api.ErrWait)
	wantTaken(t, s, 2, api.Task{Key: "k", Worker: 7})
	wantTick(t, s, 1)
	wantState(t, s, 1, api.Pending, 1)
	wantNoGrant(t, s, 1, api.ErrNone)
	wantTick(t, s, 3)
	leased(t, s, 1, 2)
	wantTicket(t, s, 4, 0, 0, 0)
	wantNoGrant(t, s, 4, api.ErrWait)
	wantTick(t, s, 1)
	wantGrant(t, s, 4, 2, 1, "")
}

// TestP7WhatTimeLeaves: the rooms, the ends of leases and the dead behind another Open.
func TestP7WhatTimeLeaves(t *testing.T) {
	c := goodConfig() // a rate of 1, a burst of 2, 2 attempts, a lease of 3
	c.Wait = 0
	d := newDevice(t, api.MaxQuota)
	s := openOn(t, d, c)
	for id := 1; id <= 4; id++ {
		wantTaken(t, s, id, api.Task{Key: string(rune('a' + id))})
	}
	done := leased(t, s, 1, 1)
	leased(t, s, 2, 1)
	wantErrno(t, "Complete", s.Complete(1, done), api.OK)
	wantTick(t, s, 1)
	leased(t, s, 3, 1)
	wantTick(t, s, 2)
	leased(t, s, 4, 1)
	wantPolled(t, s, 0, 2, 0) // the second time; no room is left
	wantTick(t, s, 3)
	for range 2 {
		wantState(t, s, 1, api.Done, 1)
		wantState(t, s, 2, api.Dead, 2)
		wantState(t, s, 3, api.Pending, 1)
		wantState(t, s, 4, api.Pending, 1)
		d.Crash(0)
		s = openOn(t, d, c)
	}
	wantPolled(t, s, 0, 3, 4, 0)
}

// TestP10KeysOverTime: who was served longest ago counts, however leases end.
func TestP10KeysOverTime(t *testing.T) {
	c := wideConfig()
	c.Lease = 1
	s := newService(t, c)
	for i, key := range []string{"a", "b", "c", "a"} {
		wantTaken(t, s, i+1, api.Task{Key: key})
	}
	wantPolled(t, s, 0, 1, 2, 3)
	wantTick(t, s, 1)
	wantPolled(t, s, 0, 1, 2)
	wantTick(t, s, 1)
	wantPolled(t, s, 0, 3, 1, 2, 4)
	wantTick(t, s, 50)
	wantPolled(t, s, 0, 3, 2, 1, 4)
}
