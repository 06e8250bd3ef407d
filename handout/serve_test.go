package handout_test

import (
	"testing"

	"handout/api"
)

func TestP10GreatestPriorityFirst(t *testing.T) {
	s := newService(t, wideConfig())
	for i, priority := range []int{3, 9, 0, 9, 5} {
		wantTaken(t, s, i+1, api.Task{Key: "k", Priority: priority})
	}
	wantPolled(t, s, 0, 2, 4, 5, 1, 3, 0)
}

func TestP10KeyServedLongestAgo(t *testing.T) {
	s := newService(t, wideConfig())
	for i, key := range []string{"b", "b", "b", "a", "a", "c", "a", "b"} {
		wantTaken(t, s, i+1, api.Task{Key: key})
	}
	// b, a, c were not served: the least number of each; then b, a, again b.
	wantPolled(t, s, 0, 1, 4, 6, 2, 5, 3, 7, 8, 0)
}

func TestP10KeysNotServedComeByNumber(t *testing.T) {
	s := newService(t, wideConfig())
	wantTaken(t, s, 1, api.Task{Key: "a"})
	wantPolled(t, s, 0, 1)
	for i, key := range []string{"a", "z", "y", "z", "a", "x"} {
		wantTaken(t, s, i+2, api.Task{Key: key})
	}
	wantPolled(t, s, 0, 3, 4, 7, 2, 5, 6, 0)
}

func TestP10PriorityIsAheadOfTheKeys(t *testing.T) {
	s := newService(t, wideConfig())
	for i, x := range []api.Task{{Key: "a", Priority: 2}, {Key: "a", Priority: 2}, {Key: "b", Priority: 1}, {Key: "a", Priority: 1}} {
		wantTaken(t, s, i+1, x)
	}
	wantPolled(t, s, 0, 1, 2, 3, 4)
}

func TestP10KeysAreServedByQueue(t *testing.T) {
	s := newService(t, wideConfig())
	for i, x := range []api.Task{{Key: "a"}, {Key: "b", Queue: 1}, {Key: "a", Queue: 1}, {Key: "b"}, {Key: "a"}, {Key: "b", Queue: 1}, {Key: "b"}} {
		wantTaken(t, s, i+1, x)
	}
	wantPolled(t, s, 0, 1)
	wantPolled(t, s, 1, 2)
	// In the queue 0 a was served, in the queue 1 b.
	wantPolled(t, s, 0, 4, 5)
	wantPolled(t, s, 1, 3, 6)
	wantPolled(t, s, 0, 7)
}

func TestP10Partitions(t *testing.T) {
	for parts := 1; parts <= api.MaxParts; parts++ {
		c := wideConfig()
		c.Parts = parts
		s := newService(t, c)
		keys := []struct {
			key string
			sum int
		}{{"\x00", 0}, {"\x01", 1}, {"\x02", 2}, {"\x01\x02", 3}, {"\xff", 255}, {"\xff\xff", 510}, {"é", 0xc3 + 0xa9}, {"\xff\xff\xff\xff\xff\xff\xff\xff", 2040}}
		for i, k := range keys {
			wantTaken(t, s, i+1, api.Task{Key: k.key})
		}
		for part := range parts {
			for i, k := range keys {
				if k.sum%parts != part {
					continue
				}
				if id := polled(t, s, 0, part, 0); id != i+1 {
					t.Errorf("of the partition %d of %d came the task %d, want %d", part, parts, id, i+1)
				}
			}
			if id := polled(t, s, 0, part, 0); id != 0 {
				t.Errorf("of the partition %d of %d came the task %d, want none", part, parts, id)
			}
		}
	}
}

func TestP10BondedTasksFitTheirWorker(t *testing.T) {
	s := newService(t, wideConfig())
	for i, x := range []api.Task{{Key: "a", Worker: 5, Priority: 9}, {Key: "b", Worker: 6, Priority: 8}, {Key: "c", Priority: 7}} {
		wantTaken(t, s, i+1, x)
	}
	for _, c := range []struct{ worker, id int }{{0, 3}, {0, 0}, {6, 2}, {6, 0}, {5, 1}, {5, 0}} {
		if id := polled(t, s, 0, 0, c.worker); id != c.id {
			t.Errorf("the worker %d got the task %d, want %d", c.worker, id, c.id)
		}
	}
}

func TestP10RoomIsBurst(t *testing.T) {
	for _, burst := range []int{1, 2, api.MaxBurst} {
		c := wideConfig()
		c.Burst, c.Queues = burst, 2
		s := newService(t, c)
		for id := 1; id <= 2*(burst+1); id++ {
			wantTaken(t, s, id, api.Task{Key: "k", Queue: id % 2})
		}
		for queue := range 2 {
			for i := range burst {
				wantPolled(t, s, queue, 2*i+2-queue)
			}
			wantPolled(t, s, queue, 0)
		}
		wantState(t, s, 2*burst+1, api.Pending, 0)
		wantState(t, s, 2*burst+2, api.Pending, 0)
	}
}

func TestP10PollsInTheOrderOfTheirTickets(t *testing.T) {
	s := newService(t, wideConfig())
	wantTicket(t, s, 1, 0, 0, 5)
	wantTicket(t, s, 2, 1, 0, 5)
	wantTicket(t, s, 3, 0, 0, 5)
	wantTicket(t, s, 4, 0, 0, 6)
	wantTaken(t, s, 1, api.Task{Key: "a", Worker: 6, Payload: "for 6"})
	wantTaken(t, s, 2, api.Task{Key: "a", Payload: "first"})
	wantTaken(t, s, 3, api.Task{Key: "a", Payload: "second"})
	wantGrant(t, s, 4, 1, 1, "for 6")
	wantGrant(t, s, 3, 3, 1, "second")
	wantGrant(t, s, 1, 2, 1, "first")
	wantNoGrant(t, s, 2, api.ErrWait)
}

// TestP10PollThatWaitsHoldsNobodyUp: one that nothing fits, and one whose queue has no room.
func TestP10PollThatWaitsHoldsNobodyUp(t *testing.T) {
	c := wideConfig()
	c.Burst, c.Queues = 1, 2
	s := newService(t, c)
	wantTaken(t, s, 1, api.Task{Key: "a"})
	wantTaken(t, s, 2, api.Task{Key: "a"})
	wantTicket(t, s, 1, 0, 0, 0)
	wantTicket(t, s, 2, 0, 0, 0)
	wantTicket(t, s, 3, 1, 0, 0)
	wantTaken(t, s, 3, api.Task{Key: "a", Queue: 1})
	wantGrant(t, s, 1, 1, 1, "")
	wantNoGrant(t, s, 2, api.ErrWait)
	wantGrant(t, s, 3, 3, 1, "")
	wantState(t, s, 2, api.Pending, 0)
}

func TestP10TokensNeverComeAgain(t *testing.T) {
	d := newDevice(t, 200)
	c := wideConfig()
	s := openOn(t, d, c)
	wantTaken(t, s, 1, api.Task{Key: "k"})
	tokens := map[int]int{}
	for attempt := 1; attempt <= api.MaxAttempts; attempt++ {
		wantTicket(t, s, 1, 0, 0, 0)
		tokens[wantGrant(t, s, 1, 1, attempt, "")]++
		d.Crash(0)
		s = openOn(t, d, c)
	}
	if len(tokens) != api.MaxAttempts {
		t.Errorf("%d leases have the tokens %v", api.MaxAttempts, tokens)
	}
}
