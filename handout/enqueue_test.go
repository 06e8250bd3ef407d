package handout_test

import (
	"math"
	"strings"
	"testing"

	"handout/api"
)

// greatTask takes as much room as a task can.
func greatTask() api.Task {
	return api.Task{Key: strings.Repeat("k", api.MaxKey), Priority: api.MaxPriority, Payload: strings.Repeat("\xff", api.MaxPayload), Worker: api.MaxWorker}
}

func TestP8TasksAtTheirBounds(t *testing.T) {
	s := newService(t, wideConfig())
	for i, x := range []api.Task{
		{Key: "k"}, {Key: "\x00"}, greatTask(), {Key: "k", Queue: api.MaxQueues - 1},
		{Key: "é世", Payload: "\x00\xff"}, {Key: "k", Worker: 1}, {Key: "k", Priority: 1},
	} {
		wantTaken(t, s, i+1, x)
		wantState(t, s, i+1, api.Pending, 0)
	}
}

func TestP8WhatIsNoTask(t *testing.T) {
	s := newService(t, wideConfig())
	for _, x := range []api.Task{
		{}, {Key: "123456789"}, {Key: "世世世"}, {Key: "k", Payload: strings.Repeat("p", api.MaxPayload+1)},
		{Key: "k", Priority: -1}, {Key: "k", Priority: api.MaxPriority + 1}, {Key: "k", Priority: math.MinInt},
		{Key: "k", Worker: -1}, {Key: "k", Worker: api.MaxWorker + 1}, {Key: "k", Worker: math.MaxInt},
		{Queue: -1}, {Queue: 9, Key: "k", Worker: -1},
	} {
		wantRefused(t, s, x, api.ErrArg)
	}
	for _, queue := range []int{math.MinInt, -1, api.MaxQueues, math.MaxInt} {
		wantRefused(t, s, api.Task{Key: "k", Queue: queue}, api.ErrQueue)
	}
	wantNoTask(t, s, 0, 1)
	wantTaken(t, s, 1, api.Task{Key: "k"}) // those that were not taken have no number
}

func TestP8TooManyTasks(t *testing.T) {
	d := newDevice(t, 512+160*api.MaxTasks)
	s := openOn(t, d, wideConfig())
	for id := 1; id <= api.MaxTasks; id++ {
		wantTaken(t, s, id, greatTask())
		if id%50 == 0 {
			d.Crash(0)
			s = openOn(t, d, wideConfig())
		}
	}
	for range 2 {
		wantRefused(t, s, greatTask(), api.ErrMany)
		wantRefused(t, s, api.Task{Key: "k", Queue: 9}, api.ErrQueue)
		wantRefused(t, s, api.Task{Queue: 9}, api.ErrArg)
		wantNoTask(t, s, math.MinInt, -1, 0, api.MaxTasks+1, math.MaxInt)
		wantState(t, s, api.MaxTasks, api.Pending, 0)
		s = openOn(t, d, wideConfig())
	}
}

// TestP8RoomForTasks fills devices of all sizes up, hands everything out
// again and again, and asks for the room that is promised.
func TestP8RoomForTasks(t *testing.T) {
	c := wideConfig()
	c.Bond = 0
	for _, quota := range []int{0, 1, 12, 13, 60, 76, 77, 78, 140, 141, 142, 511, 512, 671, 672, 673, 831, 832, 1000, 2112, 5000} {
		d := newDevice(t, quota)
		s := openOn(t, d, c)
		n := 0
		for {
			id, e := s.Enqueue(greatTask())
			if e == api.ErrFull && id == 0 {
				break
			}
			n++
			if id != n || e != api.OK {
				t.Fatalf("with the quota %d the Enqueue %d = %d, %d", quota, n, id, e)
			}
		}
		if quota >= 512+160*(n+1) {
			t.Errorf("with the quota %d the task %d has no room", quota, n+1)
		}
		for attempt := 1; attempt <= api.MaxAttempts; attempt++ {
			for ticket := 1; ticket <= min(n, api.MaxBurst); ticket++ {
				wantTicket(t, s, ticket, 0, 0, 0)
				wantGrant(t, s, ticket, ticket, attempt, greatTask().Payload)
				wantRefused(t, s, greatTask(), api.ErrFull)
			}
			d.Crash(0)
			s = openOn(t, d, c)
			wantNoTask(t, s, n+1)
			for id := 1; id <= min(n, api.MaxBurst); id++ {
				wantState(t, s, id, []int{api.Pending, api.Dead}[attempt/api.MaxAttempts], attempt)
			}
		}
	}
}

func TestP8RefusedForRoomChangesNothing(t *testing.T) {
	d := newDevice(t, 100)
	s := openOn(t, d, wideConfig())
	wantTaken(t, s, 1, api.Task{Key: "k"})
	wantTicket(t, s, 1, 1, 0, 0)
	bytes, _ := d.Read()
	d.Fuse(0)
	wantRefused(t, s, api.Task{Key: "k", Queue: 1}, api.ErrFull)
	wantNoTask(t, s, 2)
	wantNoGrant(t, s, 1, api.ErrWait)
	wantBytes(t, d, bytes, len(bytes))
}

func TestP8EnqueueServesThePolls(t *testing.T) {
	s := newService(t, wideConfig())
	wantTicket(t, s, 1, 1, 0, 0)
	wantTicket(t, s, 2, 0, 0, 0)
	wantTicket(t, s, 3, 0, 0, 0)
	wantTaken(t, s, 1, api.Task{Key: "k", Payload: "x"})
	wantState(t, s, 1, api.Leased, 1)
	wantNoGrant(t, s, 1, api.ErrWait)
	wantNoGrant(t, s, 3, api.ErrWait)
	wantGrant(t, s, 2, 1, 1, "x")
}

func TestP8Bond(t *testing.T) {
	s := newService(t, wideConfig())
	wantTicket(t, s, 1, 0, 0, 4)
	wantTicket(t, s, 2, 0, 0, 0)
	wantTaken(t, s, 1, api.Task{Key: "k", Worker: 5})
	wantState(t, s, 1, api.Pending, 0)
	wantNoGrant(t, s, 1, api.ErrWait)
	wantTicket(t, s, 3, 0, 0, 5)
	wantGrant(t, s, 3, 1, 1, "")
	wantTicket(t, s, 4, 0, 0, 6)
	wantTaken(t, s, 2, api.Task{Key: "k"})
	wantGrant(t, s, 1, 2, 1, "")
}

func TestP8BondOfNoTicks(t *testing.T) {
	c := wideConfig()
	c.Bond = 0
	s := newService(t, c)
	wantTicket(t, s, 1, 0, 0, 4)
	wantTaken(t, s, 1, api.Task{Key: "k", Worker: 5})
	wantGrant(t, s, 1, 1, 1, "")
}
