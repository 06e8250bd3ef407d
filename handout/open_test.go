package handout_test

import (
	"fmt"
	"slices"
	"strings"
	"testing"

	"handout/api"
	"handout/handout"
	"handout/journal"
)

func TestP6ConfigAtItsBounds(t *testing.T) {
	for field, bounds := range [][2]int{
		{1, api.MaxQueues}, {1, api.MaxParts}, {0, api.MaxRate}, {1, api.MaxBurst},
		{1, api.MaxAttempts}, {1, api.MaxTicks}, {0, api.MaxTicks}, {0, api.MaxTicks},
	} {
		by := func(n int) (*handout.Service, api.Errno) {
			c := goodConfig()
			*[]*int{&c.Queues, &c.Parts, &c.Rate, &c.Burst, &c.Attempts, &c.Lease, &c.Wait, &c.Bond}[field] = n
			return handout.Open(newDevice(t, api.MaxQuota), c)
		}
		for _, n := range edgeNumbers() {
			s, e := by(n)
			may := bounds[0] <= n && n <= bounds[1]
			if may != (e == api.OK) || may != (s != nil) || !may && e != api.ErrArg {
				t.Errorf("Open, the field %d at %d = %v, %d", field, n, s, e)
			}
		}
		for _, n := range bounds {
			if s, e := by(n); s == nil || e != api.OK {
				t.Errorf("Open, the field %d at its bound %d = %v, %d", field, n, s, e)
			}
		}
		for _, n := range []int{bounds[0] - 1, bounds[1] + 1} {
			if s, e := by(n); s != nil || e != api.ErrArg {
				t.Errorf("Open, the field %d at %d = %v, %d, want nil, ErrArg", field, n, s, e)
			}
		}
	}
}

func wantNoService(t *testing.T, what string, d *handout.Device, c api.Config, want api.Errno) {
	t.Helper()
	if s, e := handout.Open(d, c); s != nil || e != want {
		t.Errorf("Open, %s = %v, %d, want nil, %d", what, s, e, want)
	}
}

func TestP6ErrorNamedFirst(t *testing.T) {
	wantNoService(t, "no device", nil, goodConfig(), api.ErrArg)
	wantNoService(t, "no device, no config", nil, api.Config{}, api.ErrArg)
	d := newDevice(t, 100)
	d.Append("no journal")
	wantNoService(t, "broken, no config", d, api.Config{}, api.ErrArg)
	wantNoService(t, "broken", d, goodConfig(), api.ErrBroken)
	wantBytes(t, d, "no journal", 0)
	d.Fuse(0)
	d.Sync()
	wantNoService(t, "dead and broken, no config", d, api.Config{}, api.ErrArg)
	wantNoService(t, "dead and broken", d, goodConfig(), api.ErrDead)
}

func TestP6WhatNoServiceHasWrittenIsBroken(t *testing.T) {
	own := newDevice(t, 1000)
	s := openOn(t, own, goodConfig())
	wantTaken(t, s, 1, api.Task{Key: "k", Payload: "payload"})
	bytes, _ := own.Read()
	for _, text := range []string{"x", "Handout", "\x00", "handout?", bytes[1:], bytes + "?", strings.Replace(bytes, "payload", "PAYLOAD", 1)} {
		d := newDevice(t, 1000)
		d.Swap(text)
		wantNoService(t, fmt.Sprintf("%q", text), d, goodConfig(), api.ErrBroken)
		wantBytes(t, d, text, len(text))
	}
}

// journalOf is the journal of one call with these records.
func journalOf(records ...journal.Record) string {
	pieces := make(chan string, 1+len(records))
	pieces <- journal.Title
	for _, r := range records {
		pieces <- r.Line()
	}
	close(pieces)
	return journal.Gather(pieces)
}

func taskRecord(queue, priority, done, times, attempts, token int, key string) journal.Record {
	return journal.Record{Kind: journal.Task, Numbers: [6]int{queue, priority, done, times, attempts, token}, Texts: [2]string{key, "payload"}}
}

func leaseRecord(id, attempts int) journal.Record {
	return journal.Record{Kind: journal.Lease, Numbers: [6]int{id, attempts}}
}

func doneRecord(id int) journal.Record {
	return journal.Record{Kind: journal.Done, Numbers: [6]int{id}}
}

func againRecord(id int) journal.Record {
	return journal.Record{Kind: journal.Again, Numbers: [6]int{id}}
}

// TestP6RecordsThatCannotBeAreBroken: whole records, but no service's.
func TestP6RecordsThatCannotBeAreBroken(t *testing.T) {
	good, fresh, done := taskRecord(3, 9, 0, 2, 5, 2, "12345678"), taskRecord(3, 9, 0, 0, 0, 0, "k"), taskRecord(3, 9, 1, 1, 5, 1, "k")
	dead := taskRecord(3, 9, 0, 2, 2, 2, "k")
	for _, records := range [][]journal.Record{
		{taskRecord(4, 9, 0, 2, 5, 2, "k")}, {taskRecord(3, 10, 0, 2, 5, 2, "k")}, {taskRecord(3, 9, 2, 2, 5, 2, "k")},
		{taskRecord(3, 9, 1, 0, 5, 2, "k")}, {taskRecord(3, 9, 0, 6, 5, 6, "k")}, {taskRecord(3, 9, 0, 2, 0, 2, "k")},
		{taskRecord(3, 9, 0, 2, 6, 2, "k")}, {taskRecord(3, 9, 0, 2, 5, -1, "k")}, {taskRecord(3, 9, 0, 2, 5, 2, "")},
		{leaseRecord(1, 5)}, {good, leaseRecord(0, 5)}, {good, leaseRecord(2, 5)}, {good, leaseRecord(1, 0)}, {good, leaseRecord(1, 6)},
		{dead, leaseRecord(1, 5)}, {good, leaseRecord(1, 1), leaseRecord(1, 5)}, {done, leaseRecord(1, 5)},
		{doneRecord(1)}, {good, doneRecord(0)}, {good, doneRecord(2)}, {fresh, doneRecord(1)}, {done, doneRecord(1)},
		{good, doneRecord(1), doneRecord(1)}, {good, doneRecord(1), leaseRecord(1, 5)},
		{againRecord(1)}, {dead, againRecord(0)}, {dead, againRecord(2)}, {fresh, againRecord(1)}, {good, againRecord(1)}, {done, againRecord(1)},
		{dead, doneRecord(1), againRecord(1)}, {dead, againRecord(1), againRecord(1)}, {dead, againRecord(1), doneRecord(1)},
		{dead, againRecord(1), leaseRecord(1, 2), againRecord(1)},
		slices.Repeat([]journal.Record{good}, api.MaxTasks+1),
	} {
		d := newDevice(t, api.MaxQuota)
		wantErrno(t, "Swap", d.Swap(journalOf(records...)), api.OK)
		wantNoService(t, fmt.Sprintf("%+v", records), d, goodConfig(), api.ErrBroken)
	}
	d := newDevice(t, api.MaxQuota)
	records := append(slices.Repeat([]journal.Record{good}, api.MaxTasks), leaseRecord(300, 1), doneRecord(299), leaseRecord(298, 3), doneRecord(298),
		againRecord(4), leaseRecord(297, 1), againRecord(297), leaseRecord(297, 1), againRecord(5), leaseRecord(5, 2), againRecord(6), leaseRecord(6, 1), doneRecord(6))
	records[1], records[2], records[3], records[4], records[5] = fresh, done, dead, dead, dead
	wantErrno(t, "Swap", d.Swap(journalOf(records...)), api.OK)
	s := openOn(t, d, goodConfig())
	wantState(t, s, 1, api.Pending, 2)
	wantState(t, s, 2, api.Pending, 0)
	wantState(t, s, 3, api.Done, 1)
	wantState(t, s, 4, api.Pending, 0)
	wantState(t, s, 5, api.Pending, 1)
	wantState(t, s, 6, api.Done, 1)
	wantState(t, s, 297, api.Dead, 1)
	wantState(t, s, 298, api.Done, 3)
	wantState(t, s, 299, api.Done, 2)
	wantState(t, s, 300, api.Dead, 3)
}

// TestP6OtherBytes holds Open to the answers that it may give, and the service to its calls.
func TestP6OtherBytes(t *testing.T) {
	own := newDevice(t, 1000)
	s := openOn(t, own, lastOf(wideConfig()))
	bury(t, s, "k")
	wantRequeued(t, s, 1)
	wantErrno(t, "Complete", s.Complete(1, leased(t, s, 1, 1)), api.OK)
	bytes, _ := own.Read()
	for i := range len(bytes) {
		for _, b := range []byte{0, 1, 5, 6, 127, 128, 255, 'T', 'L', 'D', 'A', 'E', bytes[i] + 1, bytes[i] - 1} {
			d := newDevice(t, 1000)
			d.Swap(bytes[:i] + string([]byte{b}) + bytes[i+1:])
			s, e := handout.Open(d, goodConfig())
			if e != api.OK && e != api.ErrBroken && e != api.ErrFull || (s != nil) != (e == api.OK) {
				t.Errorf("Open with the byte %d at %d = %v, %d", b, i, s, e)
			}
			s.Poll(0, 0, 0)
			s.Enqueue(api.Task{Key: "k"})
			s.Requeue(1)
			s.Buried(0)
		}
	}
}

func TestP6NoBytesNoTasks(t *testing.T) {
	for _, quota := range []int{0, 1, 100, api.MaxQuota} {
		d := newDevice(t, quota)
		s := openOn(t, d, goodConfig())
		wantNoTask(t, s, -1, 0, 1, 2, api.MaxTasks, api.MaxTasks+1)
		wantPolled(t, s, 0, 0, 0)
		s = openOn(t, d, goodConfig())
		wantNoTask(t, s, 0, 1)
	}
}

func TestP6ServiceClosesWithACrash(t *testing.T) {
	for _, dead := range []bool{false, true} {
		d := newDevice(t, 1000)
		s := openOn(t, d, goodConfig())
		wantTaken(t, s, 1, api.Task{Key: "k"})
		if dead {
			d.Fuse(0)
			wantErrno(t, "Sync behind the fuse", d.Sync(), api.ErrDead)
		}
		d.Crash(1000)
		wantAll(t, "behind a crash", s, api.ErrClosed)
		d.Fuse(0)
		d.Sync()
		wantAll(t, "behind a crash, dead again", s, api.ErrClosed)
	}
}

func TestP6ServiceClosesWithTheNextOpen(t *testing.T) {
	d := newDevice(t, 1000)
	first := openOn(t, d, goodConfig())
	wantTaken(t, first, 1, api.Task{Key: "k"})
	second := openOn(t, d, goodConfig())
	wantAll(t, "behind another Open", first, api.ErrClosed)
	wantState(t, second, 1, api.Pending, 0)

	d.Fuse(0)
	d.Sync()
	wantNoService(t, "dead", d, goodConfig(), api.ErrDead)
	wantAll(t, "behind an Open that answered ErrDead", second, api.ErrClosed)

	d.Crash(0)
	third := openOn(t, d, goodConfig())
	d.Swap("no journal")
	wantNoService(t, "broken", d, goodConfig(), api.ErrBroken)
	wantAll(t, "behind an Open that answered ErrBroken", third, api.ErrClosed)
}

func TestP6ServiceStaysOpenBehindErrArg(t *testing.T) {
	d := newDevice(t, 1000)
	s := openOn(t, d, goodConfig())
	wantTaken(t, s, 1, api.Task{Key: "k"})
	wantNoService(t, "no config", d, api.Config{}, api.ErrArg)
	wantNoService(t, "no device", nil, goodConfig(), api.ErrArg)
	openOn(t, newDevice(t, 1000), goodConfig())
	wantState(t, s, 1, api.Pending, 0)
	wantTaken(t, s, 2, api.Task{Key: "k"})
}

func TestP6EveryCallOnADeadDevice(t *testing.T) {
	d := newDevice(t, 1000)
	s := openOn(t, d, goodConfig())
	wantTaken(t, s, 1, api.Task{Key: "k"})
	wantTicket(t, s, 1, 0, 0, 0)
	d.Fuse(0)
	wantRefused(t, s, api.Task{Key: "k"}, api.ErrDead)
	wantAll(t, "on a dead device", s, api.ErrDead)
}

func TestP6DeadWhenTheCallAnswers(t *testing.T) {
	for fuse := range 2 {
		d := newDevice(t, 1000)
		s := openOn(t, d, goodConfig())
		wantTaken(t, s, 1, api.Task{Key: "k"})
		d.Fuse(fuse)
		wantNoTicket(t, s, 0, 0, 0, api.ErrDead)
		wantAll(t, "on a device that died within a Poll", s, api.ErrDead)
	}
}

func TestP6WhatTellsOnlyChangesNothing(t *testing.T) {
	d := newDevice(t, 1000)
	s := openOn(t, d, goodConfig())
	wantTaken(t, s, 1, api.Task{Key: "k", Payload: "x"})
	wantTicket(t, s, 1, 0, 0, 0)
	wantTicket(t, s, 2, 0, 0, 0)
	bytes, _ := d.Read()
	d.Fuse(0)
	wantState(t, s, 1, api.Leased, 1)
	wantNoTask(t, s, 2)
	token := wantGrant(t, s, 1, 1, 1, "x")
	wantNoGrant(t, s, 2, api.ErrWait)
	wantNoGrant(t, s, 3, api.ErrTicket)
	wantErrno(t, "Beat", s.Beat(1, token), api.OK)
	wantErrno(t, "Beat by another token", s.Beat(1, token+1), api.ErrStale)
	s.Buried(0)
	wantBytes(t, d, bytes, len(bytes))
}

func TestP6BytesAreAllThatCounts(t *testing.T) {
	d := newDevice(t, 1000)
	s := openOn(t, d, wideConfig())
	for i, key := range []string{"a", "b", "c"} {
		wantTaken(t, s, i+1, api.Task{Key: key, Payload: "of " + key, Priority: i})
	}
	wantPolled(t, s, 0, 3)
	bytes, _ := d.Read()
	// A device that has room for no byte more is like the other one too.
	for _, quota := range []int{len(bytes), 1000, api.MaxQuota} {
		copied := newDevice(t, quota)
		wantErrno(t, "Swap", copied.Swap(bytes), api.OK)
		s := openOn(t, copied, wideConfig())
		wantState(t, s, 1, api.Pending, 0)
		wantState(t, s, 2, api.Pending, 0)
		wantState(t, s, 3, api.Pending, 1)
		wantTicket(t, s, 1, 0, 0, 0)
		wantGrant(t, s, 1, 3, 2, "of c")
		wantPolled(t, s, 0, 2, 1, 0)
		copied.Crash(0)
		wantState(t, openOn(t, copied, wideConfig()), 3, api.Pending, 2)
	}
}

func TestP6ServiceThatIsNoneIsClosed(t *testing.T) {
	s, _ := handout.Open(nil, goodConfig())
	wantAll(t, "of no service", s, api.ErrClosed)
}

func TestP7WhatOutlastsACrash(t *testing.T) {
	d := newDevice(t, api.MaxQuota)
	s := openOn(t, d, wideConfig())
	tasks := []api.Task{
		{Key: "\x00", Payload: ""}, {Queue: 3, Key: "12345678", Priority: 9, Payload: strings.Repeat("\xff", 40), Worker: 99},
		{Queue: 1, Key: "\xff\xfe", Priority: 4, Payload: "é世\x00"}, {Queue: 1, Key: "T", Priority: 5, Payload: "TLDAE"},
	}
	for i, x := range tasks {
		wantTaken(t, s, i+1, x)
	}
	for range 3 {
		d.Crash(0)
		s = openOn(t, d, wideConfig())
	}
	wantNoTask(t, s, 0, 5)
	for i := range tasks {
		wantState(t, s, i+1, api.Pending, 0)
	}
	wantTicket(t, s, 1, 1, 0, 0)
	wantGrant(t, s, 1, 4, 1, "TLDAE")
	wantTicket(t, s, 2, 1, 0, 0)
	wantGrant(t, s, 2, 3, 1, "é世\x00")
	wantTicket(t, s, 3, 3, 0, 7) // the bond to worker 99 has not outlasted the crash
	wantGrant(t, s, 3, 2, 1, strings.Repeat("\xff", 40))
	wantTicket(t, s, 4, 0, 0, 7)
	wantGrant(t, s, 4, 1, 1, "")
	wantTaken(t, s, 5, api.Task{Key: "k"})
}

func TestP7LeasesAreOver(t *testing.T) {
	for attempts := 1; attempts <= api.MaxAttempts; attempts++ {
		d := newDevice(t, api.MaxQuota)
		c := wideConfig()
		c.Attempts = attempts
		s := openOn(t, d, c)
		wantTaken(t, s, 1, api.Task{Key: "k", Payload: "x"})
		wantTaken(t, s, 2, api.Task{Key: "k", Queue: 1})
		tokens := map[int]int{}
		for times := 1; times <= attempts; times++ {
			wantTicket(t, s, 1, 0, 0, 0)
			tokens[wantGrant(t, s, 1, 1, times, "x")]++
			wantState(t, s, 1, api.Leased, times)
			if times%2 == 0 {
				d.Crash(0)
			}
			s = openOn(t, d, c)
			where := api.Pending
			if times == attempts {
				where = api.Dead
			}
			wantState(t, s, 1, where, times)
			wantState(t, s, 2, api.Pending, 0)
		}
		wantPolled(t, s, 0, 0)
		if len(tokens) != attempts {
			t.Errorf("the tokens of %d leases are %v", attempts, tokens)
		}
	}
}

func TestP7AttemptsOfTheLeasesConfig(t *testing.T) {
	few, many := wideConfig(), wideConfig()
	few.Attempts, many.Attempts = 1, 3
	d := newDevice(t, api.MaxQuota)
	s := openOn(t, d, many)
	wantTaken(t, s, 1, api.Task{Key: "a"})
	wantTaken(t, s, 2, api.Task{Key: "b"})
	wantPolled(t, s, 0, 1)
	s = openOn(t, d, few)
	wantState(t, s, 1, api.Pending, 1) // handed out under many
	wantPolled(t, s, 0, 1, 2)
	s = openOn(t, d, many)
	wantState(t, s, 1, api.Dead, 2) // handed out last under few
	wantState(t, s, 2, api.Dead, 1)
	s = openOn(t, d, many)
	wantState(t, s, 1, api.Dead, 2)
	wantState(t, s, 2, api.Dead, 1)
	wantPolled(t, s, 0, 0)
}

func TestP7PollsAndTicketsAreGone(t *testing.T) {
	d := newDevice(t, api.MaxQuota)
	s := openOn(t, d, goodConfig())
	wantTaken(t, s, 1, api.Task{Key: "k"})
	for ticket := 1; ticket <= api.MaxPolls; ticket++ {
		wantTicket(t, s, ticket, 0, 0, 0)
	}
	d.Crash(0)
	s = openOn(t, d, goodConfig())
	for ticket := range api.MaxPolls + 2 {
		wantNoGrant(t, s, ticket, api.ErrTicket)
	}
	wantState(t, s, 1, api.Pending, 1)
	wantTicket(t, s, 1, 0, 0, 0)
	wantGrant(t, s, 1, 1, 2, "")
}

func TestP7NoKeyWasServedAndRoomIsBurst(t *testing.T) {
	d := newDevice(t, api.MaxQuota)
	c := goodConfig()
	c.Attempts = 5
	s := openOn(t, d, c)
	for i, key := range []string{"a", "a", "b"} {
		wantTaken(t, s, i+1, api.Task{Key: key})
	}
	wantPolled(t, s, 0, 1, 3, 0)
	s = openOn(t, d, c)
	wantPolled(t, s, 0, 1, 3, 0)
	c.Burst = 1
	d.Crash(0)
	s = openOn(t, d, c)
	wantPolled(t, s, 0, 1, 0)
}

func TestP7AnotherConfigCounts(t *testing.T) {
	d := newDevice(t, api.MaxQuota)
	c := wideConfig()
	s := openOn(t, d, c)
	wantTaken(t, s, 1, api.Task{Key: "b", Queue: 3}) // b is 98: the partition 2 of 3, 0 of 2
	wantTaken(t, s, 2, api.Task{Key: "b", Queue: 0})
	c.Queues, c.Parts = 3, 3
	s = openOn(t, d, c)
	wantState(t, s, 1, api.Pending, 0)
	wantNoTicket(t, s, 3, 2, 0, api.ErrQueue)
	wantRefused(t, s, api.Task{Key: "b", Queue: 3}, api.ErrQueue)
	wantPolled(t, s, 0, 0)
	if id := polled(t, s, 0, 2, 0); id != 2 {
		t.Errorf("the poll of the partition 2 got the task %d, want 2", id)
	}
	c.Queues, c.Parts = 4, 2
	s = openOn(t, d, c)
	wantPolled(t, s, 3, 1)
	wantPolled(t, s, 0, 2)
	wantTaken(t, s, 3, api.Task{Key: "b", Queue: 3})
}
