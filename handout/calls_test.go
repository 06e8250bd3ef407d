package handout_test

import (
	"math"
	"strings"
	"testing"

	"handout/api"
	"handout/handout"
)

func edgeNumbers() []int {
	return []int{math.MinInt, math.MinInt + 1, math.MinInt32, -101, -2, -1, 0, 1, 2, 100, 101, api.MaxQuota, math.MaxInt32, math.MaxInt - 1, math.MaxInt}
}

func edgeTexts() []string {
	return []string{"", "\x00", "a", "\xff\xfe", "é世", "12345678", "123456789", strings.Repeat("p", 41), strings.Repeat("\x00", api.MaxQuota+1)}
}

// edgeConfigs are configs of which one field is at an edge, and the others may be.
func edgeConfigs() []api.Config {
	var all []api.Config
	for _, n := range edgeNumbers() {
		for field := range 8 {
			c := goodConfig()
			*[]*int{&c.Queues, &c.Parts, &c.Rate, &c.Burst, &c.Attempts, &c.Lease, &c.Wait, &c.Bond}[field] = n
			all = append(all, c)
		}
	}
	return all
}

func goodConfig() api.Config {
	return api.Config{Queues: 1, Parts: 1, Rate: 1, Burst: 2, Attempts: 2, Lease: 3, Wait: 5, Bond: 2}
}

func edgeTasks() []api.Task {
	var all []api.Task
	for _, n := range edgeNumbers() {
		all = append(all, api.Task{Queue: n, Key: "k"}, api.Task{Key: "k", Priority: n}, api.Task{Key: "k", Worker: n})
	}
	for _, s := range edgeTexts() {
		all = append(all, api.Task{Key: s}, api.Task{Key: "k", Payload: s})
	}
	return all
}

// callDevice makes every call of a device at every edge.
func callDevice(t *testing.T, d *handout.Device) {
	t.Helper()
	for _, n := range edgeNumbers() {
		for _, s := range edgeTexts() {
			d.Append(s)
			d.Sync()
			d.Append(s)
			d.Swap(s)
			bytes, e := d.Read()
			wantNothing(t, "Read", e, bytes == "")
			safe, e := d.Safe()
			wantNothing(t, "Safe", e, safe == 0)
			d.Fuse(n)
			d.Sync()
			d.Crash(n)
			d.Fuse(n)
		}
		d.Crash(n)
	}
}

// wantNothing: beside an error stands nothing (P1).
func wantNothing(t *testing.T, what string, e api.Errno, nothing bool) {
	t.Helper()
	if e != api.OK && !nothing {
		t.Errorf("%s answered %d, and something beside it", what, e)
	}
}

// callService makes every call of a service at every edge.
func callService(t *testing.T, s *handout.Service) {
	t.Helper()
	for _, task := range edgeTasks() {
		id, e := s.Enqueue(task)
		wantNothing(t, "Enqueue", e, id == 0)
	}
	for _, n := range edgeNumbers() {
		where, times, e := s.State(n)
		wantNothing(t, "State", e, where == 0 && times == 0)
		grant, e := s.Finish(n)
		wantNothing(t, "Finish", e, grant == api.Grant{})
		buried, e := s.Buried(n)
		wantNothing(t, "Buried", e, len(buried) == 0)
		s.Tick(n)
		s.Requeue(n)
		for _, m := range edgeNumbers() {
			ticket, e := s.Poll(n, m, 0)
			wantNothing(t, "Poll", e, ticket == 0)
			ticket, e = s.Poll(0, n, m)
			wantNothing(t, "Poll", e, ticket == 0)
			s.Beat(n, m)
			s.Fail(n, m)
			s.Complete(n, m)
		}
	}
}

func TestP1NoCallOfADevicePanics(t *testing.T) {
	for _, quota := range edgeNumbers() {
		// What NewDevice gives beside an error is called as well.
		d, e := handout.NewDevice(quota)
		wantNothing(t, "NewDevice", e, d == nil)
		callDevice(t, d)
	}
}

func TestP1NoCallOfAServicePanics(t *testing.T) {
	for _, c := range edgeConfigs() {
		s, e := handout.Open(nil, c)
		wantNothing(t, "Open", e, s == nil)
		s, e = handout.Open(newDevice(t, api.MaxQuota), c)
		wantNothing(t, "Open", e, s == nil)
	}
	for _, quota := range []int{0, 100, 1000, api.MaxQuota} {
		d := newDevice(t, quota)
		s := openOn(t, d, goodConfig())
		callService(t, s)
		d.Fuse(1)
		callService(t, s)
		d.Crash(0)
		callService(t, s)
		openOn(t, d, wideConfig())
	}
	callService(t, nil)
}

func TestP1ErrorNamedFirst(t *testing.T) {
	d := newDevice(t, 1)
	d.Fuse(0)
	// The change would be refused as too much: so it cannot kill the device.
	wantErrno(t, "Append of too much behind the fuse", d.Append("12"), api.ErrFull)
	wantErrno(t, "Swap of too much behind the fuse", d.Swap("12"), api.ErrFull)
	wantErrno(t, "Sync behind the fuse", d.Sync(), api.ErrDead)
	wantErrno(t, "Append of too much, dead", d.Append("12"), api.ErrDead)
	wantErrno(t, "Swap of too much, dead", d.Swap("12"), api.ErrDead)
}

func TestP1ErrorChangesNothing(t *testing.T) {
	d := halfSafe(t, 10)
	d.Fuse(1)
	wantErrno(t, "Append of too much", d.Append("12"), api.ErrFull)
	wantErrno(t, "Swap of too much", d.Swap("12345678901"), api.ErrFull)
	wantBytes(t, d, "safeloose", 4)
	wantErrno(t, "Append, the fuse's last", d.Append("x"), api.OK)
	wantErrno(t, "Swap behind the fuse", d.Swap("y"), api.ErrDead)
	wantDead(t, d)
	d.Crash(5)
	wantBytes(t, d, "safeloose", 9)
}

func TestP1DeviceThatIsNoneAnswersDead(t *testing.T) {
	d, _ := handout.NewDevice(-1)
	d.Fuse(3)
	d.Crash(3)
	wantDead(t, d)
}

func TestP2DevicesShareNothing(t *testing.T) {
	one, other := halfSafe(t, 10), halfSafe(t, 20)
	one.Fuse(0)
	wantErrno(t, "Sync behind the fuse", one.Sync(), api.ErrDead)
	wantDead(t, one)
	wantBytes(t, other, "safeloose", 4)
	wantErrno(t, "Append to the other one", other.Append("!!"), api.OK)
	one.Crash(1)
	wantBytes(t, one, "safel", 5)
	wantBytes(t, other, "safeloose!!", 4)
	bytes, _ := other.Read()
	wantErrno(t, "Swap of too much for this one", one.Swap(bytes), api.ErrFull)
	wantErrno(t, "Swap by nothing", other.Swap(""), api.OK)
	wantBytes(t, one, "safel", 5)
}

func TestP2ServicesShareNothing(t *testing.T) {
	one, other := newService(t, goodConfig()), newService(t, wideConfig())
	wantTaken(t, one, 1, api.Task{Key: "a", Payload: "one"})
	wantTicket(t, other, 1, 0, 0, 0)
	wantNoTask(t, other, 1)
	wantNoGrant(t, one, 1, api.ErrTicket)
	wantTaken(t, other, 1, api.Task{Key: "a", Payload: "other"})
	wantState(t, one, 1, api.Pending, 0)
	wantTicket(t, one, 1, 0, 0, 0)
	wantGrant(t, one, 1, 1, 1, "one")
	wantGrant(t, other, 1, 1, 1, "other")
}

func TestP2WhatWasReadStays(t *testing.T) {
	d := halfSafe(t, 20)
	first, _ := d.Read()
	d.Crash(0)
	wantErrno(t, "Append over what a crash has left", d.Append("other"), api.OK)
	second, _ := d.Read()
	wantErrno(t, "Swap", d.Swap("SWAPSWAPS"), api.OK)
	third, _ := d.Read()
	wantErrno(t, "Swap by nothing", d.Swap(""), api.OK)
	if first != "safeloose" || second != "safeother" || third != "SWAPSWAPS" {
		t.Errorf("what was read has become %q, %q, %q", first, second, third)
	}
}
