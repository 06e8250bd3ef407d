package handout_test

import (
	"testing"

	"handout/api"
)

// TestExamples goes through the worked numbers of the document.
func TestExamples(t *testing.T) {
	c := api.Config{Queues: 1, Parts: 1, Rate: 1, Burst: 2, Attempts: 2, Lease: 3, Wait: 5, Bond: 2}
	d := newDevice(t, api.MaxQuota)
	s := openOn(t, d, c)
	wantTaken(t, s, 1, api.Task{Key: "a", Priority: 1, Payload: "x"})
	wantTaken(t, s, 2, api.Task{Key: "a", Priority: 1, Payload: "y"})
	wantTaken(t, s, 3, api.Task{Key: "b", Priority: 1, Payload: "z"})
	wantTicket(t, s, 1, 0, 0, 7)
	one := wantGrant(t, s, 1, 1, 1, "x")
	wantState(t, s, 1, api.Leased, 1)
	wantTicket(t, s, 2, 0, 0, 7)
	wantGrant(t, s, 2, 3, 1, "z")
	wantTicket(t, s, 3, 0, 0, 8)
	wantNoGrant(t, s, 3, api.ErrWait)
	wantTick(t, s, 1)
	two := wantGrant(t, s, 3, 2, 1, "y")

	wantErrno(t, "Complete(1)", s.Complete(1, one), api.OK)
	wantState(t, s, 1, api.Done, 1)
	wantErrno(t, "Complete(1), once more", s.Complete(1, one), api.ErrStale)
	wantErrno(t, "Complete(9)", s.Complete(9, 1), api.ErrTask)
	wantTick(t, s, 2)
	wantState(t, s, 3, api.Pending, 1)
	wantState(t, s, 2, api.Leased, 1)
	wantErrno(t, "Fail(2)", s.Fail(2, two), api.OK)
	wantState(t, s, 2, api.Pending, 1)

	wantTicket(t, s, 4, 0, 0, 7)
	wantGrant(t, s, 4, 3, 2, "z")
	wantTick(t, s, 3)
	wantState(t, s, 3, api.Dead, 2)
	wantBuried(t, s, 0, 3)
	wantRequeued(t, s, 3)
	wantState(t, s, 3, api.Pending, 0)
	wantNoTicket(t, s, 1, 0, 7, api.ErrQueue)
	wantNoTicket(t, s, 0, 1, 7, api.ErrArg)
	wantNoGrant(t, s, 9, api.ErrTicket)

	wantTaken(t, s, 4, api.Task{Key: "c", Priority: 9, Worker: 5})
	wantTicket(t, s, 5, 0, 0, 6)
	wantGrant(t, s, 5, 2, 2, "y")

	d.Crash(0)
	wantAll(t, "behind the crash", s, api.ErrClosed)
	s = openOn(t, d, c)
	wantState(t, s, 1, api.Done, 1)
	wantState(t, s, 2, api.Dead, 2)
	wantState(t, s, 3, api.Pending, 0)
	wantState(t, s, 4, api.Pending, 0)
}
