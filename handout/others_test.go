package handout_test

import (
	"fmt"
	"math"
	"testing"

	"handout/api"
	"handout/handout"
	"handout/journal"
)

// othersTasks are records of a task at and behind the edges of every number.
func othersTasks() []journal.Record {
	var all []journal.Record
	for _, place := range [][2]int{{0, 0}, {0, 9}, {3, 9}, {4, 0}, {0, 10}, {255, 255}} {
		for done := range 3 {
			for _, times := range []int{0, 1, 4, 5, 6, 255} {
				for _, attempts := range []int{0, 1, 4, 5, 6, 255} {
					for _, token := range []int{0, 1, 5, math.MaxInt / 2, math.MaxInt - 2, math.MaxInt - 1, math.MaxInt, math.MinInt, -1} {
						all = append(all, taskRecord(place[0], place[1], done, times, attempts, token, "k"))
					}
				}
			}
		}
	}
	return all
}

// wantSoundTask: a task that a service can have come to.
func wantSoundTask(t *testing.T, what string, s *handout.Service, id int) (int, int) {
	t.Helper()
	where, times, e := s.State(id)
	sound := e == api.OK && times >= 0 && times <= api.MaxAttempts &&
		(where == api.Pending && times < api.MaxAttempts || where == api.Done && times > 0 || where == api.Dead && times > 0)
	if !sound {
		t.Fatalf("%s: State(%d) = %d, %d, %d", what, id, where, times, e)
	}
	return where, times
}

// TestP10TokensWhateverStandsOnTheDevice: where Open answers OK, tokens are 1
// or more and never the same, behind crashes too.
func TestP10TokensWhateverStandsOnTheDevice(t *testing.T) {
	c := wideConfig()
	opened := 0
	for _, r := range othersTasks() {
		what := fmt.Sprintf("%+v", r)
		text := journalOf(r)
		d := newDevice(t, len(text)) // so that every call swaps the task in
		wantErrno(t, "Swap", d.Swap(text), api.OK)
		s, e := handout.Open(d, c)
		if e == api.ErrBroken && s == nil {
			continue
		}
		if e != api.OK || s == nil {
			t.Fatalf("%s: Open = %v, %d", what, s, e)
		}
		opened++
		tokens := map[int]int{}
		for back := 0; ; {
			where, times := wantSoundTask(t, what, s, 1)
			if where == api.Dead && back < 2 {
				back++
				wantRequeued(t, s, 1)
				wantState(t, s, 1, api.Pending, 0)
				continue
			}
			if where != api.Pending {
				break
			}
			ticket, _ := s.Poll(r.Numbers[0], 0, 0)
			g, e := s.Finish(ticket)
			if g.ID != 1 || g.Token < 1 || g.Attempt != times+1 || e != api.OK || tokens[g.Token] > 0 {
				t.Fatalf("%s: Finish(%d) = %+v, %d, behind the tokens %v", what, ticket, g, e, tokens)
			}
			tokens[g.Token]++
			wantErrno(t, "Beat", s.Beat(1, g.Token), api.OK)
			if times%2 == 0 {
				wantErrno(t, "Fail", s.Fail(1, g.Token), api.OK)
			}
			d.Crash(0)
			s = openOn(t, d, c)
		}
	}
	if opened < 100 {
		t.Errorf("of all these tasks Open takes %d", opened)
	}
}

// TestP10TokensBehindTheGreatestNumber: the device tells a last token, and leases follow it.
func TestP10TokensBehindTheGreatestNumber(t *testing.T) {
	for _, last := range []int{0, 1, math.MaxInt - 2, math.MaxInt - 1, math.MaxInt} {
		d := newDevice(t, api.MaxQuota)
		wantErrno(t, "Append", d.Append(journalOf(taskRecord(0, 0, 0, 0, 0, last, "k"))), api.OK)
		wantErrno(t, "Sync", d.Sync(), api.OK)
		s, e := handout.Open(d, wideConfig())
		if e == api.ErrBroken {
			continue
		}
		tokens := map[int]int{}
		for range 3 {
			for times := 1; times <= api.MaxAttempts; times++ {
				token := leased(t, s, 1, times)
				tokens[token]++
				wantErrno(t, "Fail", s.Fail(1, token), api.OK)
			}
			wantRequeued(t, s, 1)
		}
		if len(tokens) != 3*api.MaxAttempts || e != api.OK {
			t.Errorf("behind the token %d come %v (%d)", last, tokens, e)
		}
	}
}

// TestP7WhatOthersDidNotSync: what a service has, the next one has, whoever wrote it.
func TestP7WhatOthersDidNotSync(t *testing.T) {
	own := newDevice(t, 1000)
	s := openOn(t, own, wideConfig())
	wantTaken(t, s, 1, api.Task{Key: "k", Payload: "x"})
	leased(t, s, 1, 1)
	bytes, _ := own.Read()
	for safe := range len(bytes) + 1 {
		d := newDevice(t, len(bytes))
		wantErrno(t, "Append", d.Append(bytes[:safe]), api.OK)
		wantErrno(t, "Sync", d.Sync(), api.OK)
		wantErrno(t, "Append", d.Append(bytes[safe:]), api.OK)
		s := openOn(t, d, wideConfig())
		wantState(t, s, 1, api.Pending, 1)
		d.Crash(0)
		wantState(t, openOn(t, d, wideConfig()), 1, api.Pending, 1)
	}
	d := newDevice(t, len(bytes))
	wantErrno(t, "Append", d.Append(bytes), api.OK)
	d.Fuse(0)
	wantNoService(t, "dead when it answers", d, wideConfig(), api.ErrDead)
}

// TestP7OthersWriteUnderAService: what the service writes behind that is there for good.
func TestP7OthersWriteUnderAService(t *testing.T) {
	own := newDevice(t, api.MaxQuota)
	wantTaken(t, openOn(t, own, wideConfig()), 1, api.Task{Key: "a", Payload: "another"})
	whole, _ := own.Read()
	behind := func(text string) func(d *handout.Device) {
		return func(d *handout.Device) { d.Append(text) }
	}
	swap := func(text string) func(d *handout.Device) {
		return func(d *handout.Device) { d.Swap(text) }
	}
	for i, others := range []func(d *handout.Device){
		behind(""), behind("T"), behind("L"), behind("D"), behind("A"), behind("E"), behind("?"), behind(journal.Title), behind(whole), behind(whole[:70]),
		swap(""), swap("T"), swap("?"), swap(journal.Title), swap(journal.Title + "T"), swap(whole), swap(whole[:70]),
		func(d *handout.Device) { d.Sync() },
		func(d *handout.Device) { d.Append("T"); d.Sync() },
	} {
		d := newDevice(t, api.MaxQuota)
		c := wideConfig()
		c.Attempts, c.Lease = 2, 1
		s := openOn(t, d, c)
		others(d)
		wantTaken(t, s, 1, api.Task{Key: "a", Payload: "x"})
		others(d)
		token := leased(t, s, 1, 1)
		others(d)
		wantTaken(t, s, 2, api.Task{Key: "b"})
		wantTicket(t, s, 2, 0, 0, 0)
		wantTicket(t, s, 3, 0, 0, 0)
		others(d)
		wantErrno(t, "Fail", s.Fail(1, token), api.OK) // to the second of these polls
		others(d)
		wantErrno(t, "Complete", s.Complete(1, wantGrant(t, s, 3, 1, 2, "x")), api.OK)
		wantTick(t, s, 1)
		leased(t, s, 2, 2)
		wantTick(t, s, 1)
		others(d)
		wantRequeued(t, s, 2)
		d.Crash(0)
		s = openOn(t, d, c)
		wantState(t, s, 1, api.Done, 2)
		wantState(t, s, 2, api.Pending, 0)
		wantNoTask(t, s, 3)
		if t.Failed() {
			t.Fatalf("with the writing %d of others", i)
		}
	}
}
