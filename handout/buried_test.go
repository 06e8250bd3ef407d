package handout_test

import (
	"math"
	"slices"
	"testing"

	"handout/api"
	"handout/handout"
	"handout/journal"
)

// wantBuried asks for the dead tasks of a queue, and writes over the answer and its spare room.
func wantBuried(t *testing.T, s *handout.Service, queue int, ids ...int) {
	t.Helper()
	got, e := s.Buried(queue)
	if !slices.Equal(got, ids) || e != api.OK {
		t.Errorf("Buried(%d) = %v, %d, want %v, OK", queue, got, e, ids)
	}
	got = got[:cap(got)]
	for i := range got {
		got[i] = -7
	}
}

func wantNoBuried(t *testing.T, s *handout.Service, queue int, want api.Errno) {
	t.Helper()
	if got, e := s.Buried(queue); len(got) != 0 || e != want {
		t.Errorf("Buried(%d) = %v, %d, want none, %d", queue, got, e, want)
	}
}

func wantRequeued(t *testing.T, s *handout.Service, ids ...int) {
	t.Helper()
	for _, id := range ids {
		wantErrno(t, "Requeue", s.Requeue(id), api.OK)
	}
}

// lastOf is a config by which every lease is its task's last one.
func lastOf(c api.Config) api.Config {
	c.Attempts, c.Lease = 1, 1
	return c
}

// bury takes tasks of the queue 0, with these keys, and buries them all, by a
// config of one attempt.
func bury(t *testing.T, s *handout.Service, keys ...string) {
	t.Helper()
	for i, key := range keys {
		wantTaken(t, s, i+1, api.Task{Key: key, Payload: key})
	}
	for i := range keys {
		wantErrno(t, "Fail", s.Fail(i+1, leased(t, s, i+1, 1)), api.OK)
		wantState(t, s, i+1, api.Dead, 1)
	}
}

func TestP14BuriedTellsTheDead(t *testing.T) {
	s := newService(t, lastOf(wideConfig()))
	wantBuried(t, s, 0)
	for id := 1; id <= 8; id++ {
		// Those that come later are handed out, and die, earlier.
		wantTaken(t, s, id, api.Task{Key: "k", Queue: id % 2, Priority: id})
	}
	wantBuried(t, s, 0)
	wantPolled(t, s, 0, 8)
	wantBuried(t, s, 0) // it is leased, not dead
	wantTick(t, s, 1)
	wantBuried(t, s, 0, 8)
	wantPolled(t, s, 1, 7, 5)
	wantTick(t, s, 1)
	wantPolled(t, s, 0, 6)
	wantTick(t, s, 1)
	ticket, _ := s.Poll(0, 0, 0)
	g, _ := s.Finish(ticket)
	wantErrno(t, "Complete", s.Complete(g.ID, g.Token), api.OK)
	wantState(t, s, 4, api.Done, 1)
	wantPolled(t, s, 0, 2) // leased, and 1 and 3 are pending
	for range 2 {
		wantBuried(t, s, 0, 6, 8)
		wantBuried(t, s, 1, 5, 7)
	}
	wantBuried(t, s, 2)
	wantBuried(t, s, 3)
}

func TestP14BuriedOfNoQueue(t *testing.T) {
	for queues := 1; queues <= api.MaxQueues; queues++ {
		c := lastOf(wideConfig())
		c.Queues = queues
		s := newService(t, c)
		bury(t, s, "a", "b")
		for _, queue := range []int{math.MinInt, -1, queues, queues + 1, api.MaxQueues, 1 << 32, math.MaxInt} {
			wantNoBuried(t, s, queue, api.ErrQueue)
		}
		for queue := 1; queue < queues; queue++ {
			wantBuried(t, s, queue)
		}
		wantBuried(t, s, 0, 1, 2)
	}
}

func TestP14BuriedTellsAllThereCanBe(t *testing.T) {
	d := newDevice(t, 512+160*api.MaxTasks)
	c := lastOf(wideConfig())
	s := openOn(t, d, c)
	var all []int
	for id := 1; id <= api.MaxTasks; id++ {
		wantTaken(t, s, id, greatTask())
		all = append(all, id)
	}
	d.Crash(0) // so that no bond is left
	s = openOn(t, d, c)
	for id := 1; id <= api.MaxTasks; id += api.MaxRate {
		wantBuried(t, s, 0, all[:id-1]...)
		for range min(api.MaxRate, api.MaxTasks-id+1) {
			polled(t, s, 0, 0, 0)
		}
		wantTick(t, s, 1)
	}
	for range 2 {
		wantBuried(t, s, 0, all...)
		wantBuried(t, s, 1)
		s = openOn(t, d, c)
	}
	for id := api.MaxTasks; id >= 1; id-- {
		wantRequeued(t, s, id)
		wantBuried(t, s, 0, all[:id-1]...)
	}
	d.Crash(0)
	wantBuried(t, openOn(t, d, c), 0)
}

// TestP2BuriedIsNewMemory: whoever writes into one answer, or behind it,
// changes no other one, and no later call changes an answer.
func TestP2BuriedIsNewMemory(t *testing.T) {
	s := newService(t, lastOf(wideConfig()))
	bury(t, s, "a", "b", "c", "d", "e")
	want := []int{1, 2, 3, 4, 5}
	var lists [5][]int
	for i := range lists {
		lists[i], _ = s.Buried(0)
	}
	for i, list := range lists {
		if !slices.Equal(list, want) {
			t.Errorf("behind what was written into %d other answers this one is %v", i, list)
		}
		list = list[:cap(list)]
		for k := range list {
			list[k] = 99
		}
	}
	kept, _ := s.Buried(0)
	wantRequeued(t, s, 1)
	wantBuried(t, s, 0, 2, 3, 4, 5)
	if !slices.Equal(kept, want) {
		t.Errorf("behind other calls the answer has become %v", kept)
	}
	wantState(t, s, 5, api.Dead, 1)
}

// TestP6BuriedChangesNothing on the device, nor of what is served.
func TestP6BuriedChangesNothing(t *testing.T) {
	d := newDevice(t, api.MaxQuota)
	s := openOn(t, d, lastOf(wideConfig()))
	bury(t, s, "a", "b")
	wantTicket(t, s, 3, 0, 0, 0)
	bytes, _ := d.Read()
	d.Fuse(0)
	wantBuried(t, s, 0, 1, 2)
	wantBuried(t, s, 1)
	wantNoBuried(t, s, 4, api.ErrQueue)
	wantBytes(t, d, bytes, len(bytes))
	wantNoGrant(t, s, 3, api.ErrWait)
	d.Sync()
	wantNoBuried(t, s, 4, api.ErrDead)
	d.Crash(0)
	wantNoBuried(t, s, 4, api.ErrClosed)
}

// wantNotRequeued: the call answers ErrTask, and neither writes nor changes anything.
func wantNotRequeued(t *testing.T, when string, d *handout.Device, s *handout.Service, ids ...int) {
	t.Helper()
	d.Fuse(0)
	for _, id := range ids {
		where, times, e := s.State(id)
		wantErrno(t, "Requeue, "+when, s.Requeue(id), api.ErrTask)
		if w, n, f := s.State(id); w != where || n != times || e != f {
			t.Errorf("Requeue, %s, leaves the task %d at %d, %d", when, id, w, n)
		}
	}
	d.Fuse(-1)
}

func TestP14RequeueOfWhatIsNotDead(t *testing.T) {
	d := newDevice(t, api.MaxQuota)
	c := wideConfig()
	c.Attempts, c.Lease = 2, 1
	s := openOn(t, d, c)
	edges := []int{math.MinInt, -1, 0, 1, 2, api.MaxTasks, api.MaxTasks + 1, 1 << 16, 1<<16 + 1, 1 << 32, math.MaxInt}
	wantNotRequeued(t, "no task at all", d, s, edges...)
	wantTaken(t, s, 1, api.Task{Key: "k", Payload: "x"})
	wantTicket(t, s, 1, 1, 0, 0) // which nothing serves
	wantNotRequeued(t, "pending, never handed out", d, s, edges...)
	wantErrno(t, "Fail", s.Fail(1, leased(t, s, 1, 1)), api.OK)
	wantNotRequeued(t, "pending", d, s, edges...)
	token := leased(t, s, 1, 2)
	wantNotRequeued(t, "leased for the last time", d, s, edges...)
	wantErrno(t, "Beat by the lease that is not over", s.Beat(1, token), api.OK)
	wantTick(t, s, 1)
	wantState(t, s, 1, api.Dead, 2)
	wantNotRequeued(t, "others than the dead one", d, s, slices.DeleteFunc(edges, func(id int) bool { return id == 1 })...)
	wantRequeued(t, s, 1)
	wantNotRequeued(t, "once more", d, s, 1)
	token = leased(t, s, 1, 1)
	wantNotRequeued(t, "leased again", d, s, 1)
	wantErrno(t, "Complete", s.Complete(1, token), api.OK)
	wantNotRequeued(t, "done", d, s, 1)
	d.Crash(0)
	s = openOn(t, d, c)
	wantNotRequeued(t, "done before the crash", d, s, 1)
	wantState(t, s, 1, api.Done, 1)
}

// TestP14DoneAtTheLastAttemptIsNotDead though its lease would have left it so.
func TestP14DoneAtTheLastAttemptIsNotDead(t *testing.T) {
	d := newDevice(t, api.MaxQuota)
	c := lastOf(wideConfig())
	s := openOn(t, d, c)
	wantTaken(t, s, 1, api.Task{Key: "k"})
	wantErrno(t, "Complete", s.Complete(1, leased(t, s, 1, 1)), api.OK)
	wantTick(t, s, 5)
	for range 2 {
		wantBuried(t, s, 0)
		wantNotRequeued(t, "done at the last attempt", d, s, 1)
		s = openOn(t, d, c)
	}
}

// TestP14RequeueStartsAgain: the task has all its attempts once more, each time.
func TestP14RequeueStartsAgain(t *testing.T) {
	for attempts := 1; attempts <= api.MaxAttempts; attempts++ {
		c := wideConfig()
		c.Attempts, c.Lease = attempts, 2
		d := newDevice(t, api.MaxQuota)
		s := openOn(t, d, c)
		wantTaken(t, s, 1, api.Task{Key: "k"})
		tokens := map[int]int{}
		for round := range 4 {
			for times := 1; times <= attempts; times++ {
				wantBuried(t, s, 0)
				token := leased(t, s, 1, times)
				tokens[token]++
				for old := range tokens {
					if old != token {
						wantStale(t, "by a token from before", d, s, 1, old)
					}
				}
				if (round+times)%2 == 0 {
					wantErrno(t, "Fail", s.Fail(1, token), api.OK)
				} else {
					wantTick(t, s, 1)
					wantState(t, s, 1, api.Leased, times) // the lease lasts as long as any
					wantTick(t, s, 1)
				}
			}
			wantState(t, s, 1, api.Dead, attempts)
			wantBuried(t, s, 0, 1)
			wantPolled(t, s, 0, 0)
			s = openOn(t, d, c) // so that no poll is left
			wantRequeued(t, s, 1)
			wantState(t, s, 1, api.Pending, 0)
		}
		if len(tokens) != 4*attempts {
			t.Errorf("%d leases have the tokens %v", 4*attempts, tokens)
		}
	}
}

// TestP14RequeueByAnotherConfig: how often it is handed out then hangs on the leases to come.
func TestP14RequeueByAnotherConfig(t *testing.T) {
	few, many := wideConfig(), wideConfig()
	few.Attempts, many.Attempts = 1, 3
	d := newDevice(t, api.MaxQuota)
	s := openOn(t, d, few)
	bury(t, s, "a")
	s = openOn(t, d, many)
	wantBuried(t, s, 0, 1)
	wantRequeued(t, s, 1)
	for times := 1; times <= 3; times++ {
		wantState(t, s, 1, api.Pending, times-1)
		wantErrno(t, "Fail", s.Fail(1, leased(t, s, 1, times)), api.OK)
	}
	wantState(t, s, 1, api.Dead, 3)
	s = openOn(t, d, few)
	wantRequeued(t, s, 1)
	wantErrno(t, "Fail", s.Fail(1, leased(t, s, 1, 1)), api.OK)
	wantState(t, s, 1, api.Dead, 1)
	wantBuried(t, openOn(t, d, many), 0, 1)
}

// TestP14TasksOfQueuesThatThereAreNot: they are brought back, and wait for a config that has them.
func TestP14TasksOfQueuesThatThereAreNot(t *testing.T) {
	d := newDevice(t, api.MaxQuota)
	c := lastOf(wideConfig())
	s := openOn(t, d, c)
	wantTaken(t, s, 1, api.Task{Key: "k", Queue: 3})
	wantTaken(t, s, 2, api.Task{Key: "k", Queue: 3})
	wantPolled(t, s, 3, 1, 2)
	c.Queues = 3
	s = openOn(t, d, c)
	wantNoBuried(t, s, 3, api.ErrQueue)
	wantBuried(t, s, 0)
	wantTicket(t, s, 1, 0, 0, 0)
	wantRequeued(t, s, 2)
	wantState(t, s, 1, api.Dead, 1)
	wantState(t, s, 2, api.Pending, 0)
	wantNoGrant(t, s, 1, api.ErrWait)
	c.Queues = 4
	s = openOn(t, d, c)
	wantBuried(t, s, 3, 1)
	wantPolled(t, s, 3, 2)
}

// TestP14RequeuedIsBoundToNobody within the ticks of its bond too.
func TestP14RequeuedIsBoundToNobody(t *testing.T) {
	s := newService(t, lastOf(wideConfig())) // a bond of 100 ticks
	wantTaken(t, s, 1, api.Task{Key: "k", Worker: 5})
	wantTaken(t, s, 2, api.Task{Key: "k", Worker: 5})
	wantTicket(t, s, 1, 0, 0, 6)
	wantTicket(t, s, 2, 0, 0, 5)
	wantErrno(t, "Fail", s.Fail(1, wantGrant(t, s, 2, 1, 1, "")), api.OK)
	wantNoGrant(t, s, 1, api.ErrWait)
	wantRequeued(t, s, 1)
	wantErrno(t, "Fail", s.Fail(1, wantGrant(t, s, 1, 1, 1, "")), api.OK)
	wantRequeued(t, s, 1)
	wantTick(t, s, 1)
	wantPolled(t, s, 0, 1, 0)
	wantState(t, s, 2, api.Pending, 0) // bound still
}

func TestP14RequeueServesThePolls(t *testing.T) {
	c := lastOf(wideConfig())
	c.Parts = 2
	s := newService(t, c)
	wantTaken(t, s, 1, api.Task{Key: "b", Payload: "x"}) // 98: the partition 0
	first := leased(t, s, 1, 1)
	wantErrno(t, "Fail", s.Fail(1, first), api.OK)
	wantTicket(t, s, 2, 1, 0, 0)
	wantTicket(t, s, 3, 0, 1, 0)
	wantTicket(t, s, 4, 0, 0, 7)
	wantTicket(t, s, 5, 0, 0, 0)
	wantRequeued(t, s, 1)
	wantState(t, s, 1, api.Leased, 1)
	wantBuried(t, s, 0)
	for _, ticket := range []int{2, 3, 5} {
		wantNoGrant(t, s, ticket, api.ErrWait)
	}
	second := wantGrant(t, s, 4, 1, 1, "x")
	if first == second {
		t.Errorf("two leases have the token %d", first)
	}
	wantErrno(t, "Complete by the token from before", s.Complete(1, first), api.ErrStale)
	wantTick(t, s, 1)
	wantState(t, s, 1, api.Dead, 1)
	wantNoGrant(t, s, 5, api.ErrWait)
	wantRequeued(t, s, 1)
	wantErrno(t, "Complete", s.Complete(1, wantGrant(t, s, 5, 1, 1, "x")), api.OK)
}

// TestP14RequeueServesByRoom: neither dying nor coming back gives room.
func TestP14RequeueServesByRoom(t *testing.T) {
	c := lastOf(wideConfig())
	c.Rate, c.Burst, c.Queues = 1, 1, 2
	s := newService(t, c)
	wantTaken(t, s, 1, api.Task{Key: "k"})
	wantErrno(t, "Fail", s.Fail(1, leased(t, s, 1, 1)), api.OK)
	wantTicket(t, s, 2, 0, 0, 0)
	wantRequeued(t, s, 1)
	wantState(t, s, 1, api.Pending, 0)
	wantNoGrant(t, s, 2, api.ErrWait)
	wantTick(t, s, 1)
	wantGrant(t, s, 2, 1, 1, "")
	wantTick(t, s, 1) // room again, and the lease is over
	wantTicket(t, s, 3, 0, 0, 0)
	wantRequeued(t, s, 1)
	wantGrant(t, s, 3, 1, 1, "")
}

// TestP14RequeuedComesInItsTurn: its priority, its key's last serving and its number count as for any other.
func TestP14RequeuedComesInItsTurn(t *testing.T) {
	s := newService(t, lastOf(wideConfig()))
	for i, x := range []api.Task{{Key: "a"}, {Key: "b"}, {Key: "a"}, {Key: "d", Priority: 9}} {
		wantTaken(t, s, i+1, x)
	}
	wantPolled(t, s, 0, 4, 1, 2, 3)
	wantTick(t, s, 1)
	wantRequeued(t, s, 3, 1, 2, 4)
	wantTaken(t, s, 5, api.Task{Key: "c"})
	// 4 is the most urgent; c was never served, b longer ago than a.
	wantPolled(t, s, 0, 4, 5, 2, 1, 3, 0)
}

// TestP14RequeueOfOneLeavesTheOthers as they are, behind a crash too.
func TestP14RequeueOfOneLeavesTheOthers(t *testing.T) {
	d := newDevice(t, api.MaxQuota)
	c := lastOf(wideConfig())
	s := openOn(t, d, c)
	bury(t, s, "a", "b", "c", "d")
	wantTaken(t, s, 5, api.Task{Key: "e"})
	wantRequeued(t, s, 3)
	for range 2 {
		wantBuried(t, s, 0, 1, 2, 4)
		wantState(t, s, 3, api.Pending, 0)
		wantState(t, s, 5, api.Pending, 0)
		d.Crash(0)
		s = openOn(t, d, c)
	}
	wantPolled(t, s, 0, 3, 5, 0)
}

// TestP7RequeuedStaysSo on devices on which it is appended, and on those on which all is swapped in.
func TestP7RequeuedStaysSo(t *testing.T) {
	for more := range 60 {
		d := newDevice(t, journal.Size(2)+more)
		c := lastOf(wideConfig())
		s := openOn(t, d, c)
		bury(t, s, "a", "b")
		wantRequeued(t, s, 1)
		for range 2 {
			d.Crash(0)
			s = openOn(t, d, c)
			wantState(t, s, 1, api.Pending, 0)
			wantState(t, s, 2, api.Dead, 1)
		}
		token := leased(t, s, 1, 1)
		d.Crash(0)
		s = openOn(t, d, c)
		wantBuried(t, s, 0, 1, 2)
		wantRequeued(t, s, 2, 1)
		wantTicket(t, s, 1, 0, 0, 0)
		again := wantGrant(t, s, 1, 1, 1, "a")
		if again == token {
			t.Errorf("with %d bytes more two leases have the token %d", more, token)
		}
		wantErrno(t, "Complete", s.Complete(1, again), api.OK)
		d.Crash(0)
		s = openOn(t, d, c)
		wantState(t, s, 1, api.Done, 1)
		wantState(t, s, 2, api.Pending, 0)
	}
}

// TestP8RequeueNeedsNoRoom: on a device that has room for its tasks and no
// byte more, tasks come back again and again, by other tokens each time.
func TestP8RequeueNeedsNoRoom(t *testing.T) {
	for _, more := range []int{0, 1, 7, 8, 9, 12, 20, 40} {
		d := newDevice(t, journal.Size(2)+more)
		c := wideConfig()
		c.Attempts, c.Lease, c.Wait = 2, 1, 0
		s := openOn(t, d, c)
		wantTaken(t, s, 1, api.Task{Key: "k"})
		wantTaken(t, s, 2, api.Task{Key: "k", Queue: 1})
		tokens := map[int]int{}
		for round := range 50 {
			for times := 1; times <= 2; times++ {
				tokens[leased(t, s, 1, times)]++
				wantTick(t, s, 1)
			}
			wantRequeued(t, s, 1)
			wantRefused(t, s, api.Task{Key: "k"}, api.ErrFull)
			if round%5 == 0 {
				d.Crash(0)
				s = openOn(t, d, c)
			}
			wantState(t, s, 1, api.Pending, 0)
			wantState(t, s, 2, api.Pending, 0)
		}
		if len(tokens) != 100 {
			t.Errorf("with %d bytes more 100 leases have %d tokens", more, len(tokens))
		}
	}
}
