package handout_test

import (
	"math"
	"testing"

	"handout/api"
	"handout/handout"
)

// changes are the calls that burn a fuse off, each one that would answer OK.
func changes() map[string]func(*handout.Device) api.Errno {
	return map[string]func(*handout.Device) api.Errno{
		"Append":            func(d *handout.Device) api.Errno { return d.Append("z") },
		"Append of nothing": func(d *handout.Device) api.Errno { return d.Append("") },
		"Sync":              func(d *handout.Device) api.Errno { return d.Sync() },
		"Swap":              func(d *handout.Device) api.Errno { return d.Swap("swapped") },
		"Swap by nothing":   func(d *handout.Device) api.Errno { return d.Swap("") },
	}
}

// halfSafe makes a device with the bytes "safe" and, not safe, "loose".
func halfSafe(t *testing.T, quota int) *handout.Device {
	t.Helper()
	d := newDevice(t, quota)
	wantErrno(t, "Append", d.Append("safe"), api.OK)
	wantErrno(t, "Sync", d.Sync(), api.OK)
	wantErrno(t, "Append", d.Append("loose"), api.OK)
	return d
}

func TestP5EachChangeBurnsOneOff(t *testing.T) {
	for name, change := range changes() {
		for n := range 4 {
			d := halfSafe(t, 100)
			d.Fuse(n)
			for range n {
				wantErrno(t, name+" ahead of the fuse's end", change(d), api.OK)
			}
			wantErrno(t, name+" behind the fuse", change(d), api.ErrDead)
			wantDead(t, d)
		}
	}
}

func TestP5ChangeThatKillsIsNotDone(t *testing.T) {
	for name, change := range changes() {
		d := halfSafe(t, 100)
		d.Fuse(0)
		wantErrno(t, name+" behind the fuse", change(d), api.ErrDead)
		d.Crash(math.MaxInt)
		wantBytes(t, d, "safeloose", 9)

		d = halfSafe(t, 100)
		d.Fuse(0)
		wantErrno(t, name+" behind the fuse", change(d), api.ErrDead)
		d.Crash(0)
		wantBytes(t, d, "safe", 4)
	}
}

func TestP5RefusedChangesBurnNothing(t *testing.T) {
	d := halfSafe(t, 10)
	d.Fuse(1)
	for range 3 {
		wantErrno(t, "Append of too much", d.Append("xx"), api.ErrFull)
		wantErrno(t, "Swap of too much", d.Swap("12345678901"), api.ErrFull)
	}
	wantErrno(t, "Append, the fuse's last", d.Append("x"), api.OK)
	wantErrno(t, "Append of too much behind the fuse", d.Append("y"), api.ErrFull)
	wantErrno(t, "Swap of too much behind the fuse", d.Swap("12345678901"), api.ErrFull)
	wantBytes(t, d, "safeloosex", 4)
	wantErrno(t, "Sync behind the fuse", d.Sync(), api.ErrDead)
	wantDead(t, d)
}

func TestP5LaterFuseCounts(t *testing.T) {
	d := newDevice(t, 10)
	d.Fuse(0)
	d.Fuse(2)
	wantErrno(t, "Sync, first", d.Sync(), api.OK)
	d.Fuse(2)
	wantErrno(t, "Sync, first again", d.Sync(), api.OK)
	wantErrno(t, "Sync, second", d.Sync(), api.OK)
	for _, none := range []int{-1, -7, math.MinInt} {
		d.Fuse(0)
		d.Fuse(none)
		for range 10 {
			wantErrno(t, "Sync without a fuse", d.Sync(), api.OK)
		}
	}
	d.Fuse(math.MaxInt)
	wantErrno(t, "Sync, a long fuse", d.Sync(), api.OK)
	d.Fuse(0)
	wantErrno(t, "Sync behind the fuse", d.Sync(), api.ErrDead)
}

func TestP5FuseOnDeadDeviceDoesNothing(t *testing.T) {
	d := halfSafe(t, 10)
	d.Fuse(0)
	wantErrno(t, "Sync behind the fuse", d.Sync(), api.ErrDead)
	for _, n := range []int{math.MinInt, -1, 0, 1, 9, math.MaxInt} {
		d.Fuse(n)
		wantDead(t, d)
	}
	d.Fuse(1)
	d.Crash(0)
	for range 3 {
		wantErrno(t, "Sync behind a crash", d.Sync(), api.OK)
	}
}

func TestP5CrashKeepsFirstOfThoseBehind(t *testing.T) {
	keeps := []struct {
		keep  int
		bytes string
	}{
		{math.MinInt, "safe"}, {-1, "safe"}, {0, "safe"}, {1, "safel"}, {4, "safeloos"},
		{5, "safeloose"}, {6, "safeloose"}, {math.MaxInt - 4, "safeloose"}, {math.MaxInt, "safeloose"},
	}
	for _, k := range keeps {
		d := halfSafe(t, 20)
		d.Crash(k.keep)
		wantBytes(t, d, k.bytes, len(k.bytes))
		d.Crash(0)
		wantBytes(t, d, k.bytes, len(k.bytes))
		wantErrno(t, "Append behind a crash", d.Append("!"), api.OK)
		wantBytes(t, d, k.bytes+"!", len(k.bytes))
	}
}

func TestP5CrashGivesRoomBack(t *testing.T) {
	d := halfSafe(t, 9)
	wantErrno(t, "Append to a full device", d.Append("x"), api.ErrFull)
	d.Crash(1)
	wantErrno(t, "Append of too much", d.Append("12345"), api.ErrFull)
	wantErrno(t, "Append to the brim", d.Append("1234"), api.OK)
	wantBytes(t, d, "safel1234", 5)
}

func TestP5CrashPutsTheFuseOut(t *testing.T) {
	for _, n := range []int{0, 1, 2} {
		d := halfSafe(t, 20)
		d.Fuse(n)
		d.Crash(0)
		for range n + 3 {
			wantErrno(t, "Sync behind a crash", d.Sync(), api.OK)
		}
	}
}

func TestP5CrashEndsDeath(t *testing.T) {
	d := halfSafe(t, 20)
	for range 3 {
		d.Fuse(0)
		wantErrno(t, "Append behind the fuse", d.Append("x"), api.ErrDead)
		wantDead(t, d)
		d.Crash(0)
		wantBytes(t, d, "safe", 4)
		wantErrno(t, "Append behind a crash", d.Append("x"), api.OK)
		wantErrno(t, "Swap behind a crash", d.Swap("safe"), api.OK)
	}
}

func TestP5CrashOfEmptyDevice(t *testing.T) {
	for _, keep := range []int{math.MinInt, -1, 0, 1, math.MaxInt} {
		d := newDevice(t, 3)
		d.Crash(keep)
		wantBytes(t, d, "", 0)
		wantErrno(t, "Append behind a crash", d.Append("abc"), api.OK)
	}
}
