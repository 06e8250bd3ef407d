package handout_test

import (
	"math"
	"runtime"
	"testing"
	"time"

	"handout/api"
)

func TestP9WhatMayNotBePolled(t *testing.T) {
	c := goodConfig()
	c.Queues, c.Parts = 2, 2
	s := newService(t, c)
	for _, n := range []int{math.MinInt, -1, 2, 3, math.MaxInt} {
		wantNoTicket(t, s, 0, n, 0, api.ErrArg)
		wantNoTicket(t, s, n, n, 0, api.ErrArg)
		wantNoTicket(t, s, n, 0, 0, api.ErrQueue)
	}
	for _, worker := range []int{math.MinInt, -1, api.MaxWorker + 1, math.MaxInt} {
		wantNoTicket(t, s, 0, 0, worker, api.ErrArg)
		wantNoTicket(t, s, 2, 0, worker, api.ErrArg)
	}
	wantTicket(t, s, 1, 1, 1, api.MaxWorker)
	wantTicket(t, s, 2, 0, 0, 0)
}

func TestP9TooManyTickets(t *testing.T) {
	c := goodConfig()
	c.Wait = 0
	s := newService(t, c)
	for ticket := 1; ticket <= api.MaxPolls; ticket++ {
		wantTicket(t, s, ticket, 0, 0, 0)
	}
	// They have all ended, but are out still.
	wantNoTicket(t, s, 0, 0, 0, api.ErrMany)
	wantNoTicket(t, s, 1, 0, 0, api.ErrQueue)
	wantNoTicket(t, s, 1, 1, 0, api.ErrArg)
	for _, ticket := range []int{7, 1, 20} {
		wantNoGrant(t, s, ticket, api.ErrNone)
		wantNoGrant(t, s, ticket, api.ErrTicket)
	}
	for ticket := 21; ticket <= 23; ticket++ {
		wantTicket(t, s, ticket, 0, 0, 0)
	}
	wantNoTicket(t, s, 0, 0, 0, api.ErrMany)
	for _, ticket := range []int{math.MinInt, -1, 0, 1, 7, 20, 24, math.MaxInt} {
		wantNoGrant(t, s, ticket, api.ErrTicket)
	}
}

func TestP9TicketsGoOnBehindARefusal(t *testing.T) {
	s := newService(t, goodConfig())
	wantTicket(t, s, 1, 0, 0, 0)
	wantNoTicket(t, s, 0, 1, 0, api.ErrArg)
	wantNoTicket(t, s, 1, 0, 0, api.ErrQueue)
	wantTicket(t, s, 2, 0, 0, 0)
}

func TestP9PollWithoutWaitEndsAtOnce(t *testing.T) {
	c := goodConfig()
	c.Wait = 0
	s := newService(t, c)
	wantTicket(t, s, 1, 0, 0, 0)
	wantTaken(t, s, 1, api.Task{Key: "k", Payload: "x"})
	wantState(t, s, 1, api.Pending, 0)
	wantTicket(t, s, 2, 0, 0, 0)
	wantState(t, s, 1, api.Leased, 1)
	wantNoGrant(t, s, 1, api.ErrNone)
	wantGrant(t, s, 2, 1, 1, "x")
	wantNoGrant(t, s, 2, api.ErrTicket)
}

func TestP9PollWaits(t *testing.T) {
	c := goodConfig()
	c.Wait = 1
	s := newService(t, c)
	for range 3 {
		wantTicket(t, s, 1, 0, 0, 0)
		for range 3 {
			wantNoGrant(t, s, 1, api.ErrWait)
		}
		wantTaken(t, s, 1, api.Task{Key: "k", Payload: "x"})
		wantGrant(t, s, 1, 1, 1, "x")
		wantNoGrant(t, s, 1, api.ErrTicket)
		s = newService(t, c)
	}
}

func TestP9GrantStaysTillItIsFinished(t *testing.T) {
	s := newService(t, wideConfig())
	wantTaken(t, s, 1, api.Task{Key: "a", Payload: "x"})
	wantTicket(t, s, 1, 0, 0, 0)
	wantTaken(t, s, 2, api.Task{Key: "b", Payload: "y"})
	wantTicket(t, s, 2, 0, 0, 0)
	wantTicket(t, s, 3, 0, 0, 0)
	wantGrant(t, s, 2, 2, 1, "y")
	wantGrant(t, s, 1, 1, 1, "x")
	wantNoGrant(t, s, 3, api.ErrWait)
}

// TestWaysNoGoroutineIsLeft: a poll that waits, or is never finished, holds no goroutine either.
func TestWaysNoGoroutineIsLeft(t *testing.T) {
	before := runtime.NumGoroutine()
	d := newDevice(t, 512+160*api.MaxTasks)
	for range 20 {
		s := openOn(t, d, wideConfig())
		for range api.MaxPolls {
			ticket, _ := s.Poll(0, 0, 0)
			s.Enqueue(api.Task{Key: "k"})
			s.Poll(1, 0, 0)
			s.Tick(1)
			if g, e := s.Finish(ticket); e == api.OK {
				s.Beat(g.ID, g.Token)
				s.Fail(g.ID, g.Token)
				s.Complete(g.ID, g.Token+1)
			}
			ids, _ := s.Buried(0)
			for _, id := range ids {
				s.Requeue(id)
			}
		}
		s.Tick(api.MaxTicks)
	}
	// A goroutine that has done its work may need a moment to be gone.
	for range 100 {
		if runtime.NumGoroutine() <= before {
			return
		}
		time.Sleep(time.Millisecond)
	}
	t.Errorf("%d goroutines are left", runtime.NumGoroutine()-before)
}
