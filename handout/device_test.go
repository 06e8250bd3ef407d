package handout_test

import (
	"math"
	"strings"
	"testing"

	"handout/api"
	"handout/handout"
)

// newDevice makes a device that must be to be had.
func newDevice(t *testing.T, quota int) *handout.Device {
	t.Helper()
	d, e := handout.NewDevice(quota)
	if d == nil || e != api.OK {
		t.Fatalf("NewDevice(%d) = %v, %d, want a device", quota, d, e)
	}
	return d
}

func wantErrno(t *testing.T, what string, got, want api.Errno) {
	t.Helper()
	if got != want {
		t.Errorf("%s = %d, want %d", what, got, want)
	}
}

// wantBytes holds what Read and Safe tell against what is to be there.
func wantBytes(t *testing.T, d *handout.Device, bytes string, safe int) {
	t.Helper()
	got, e := d.Read()
	if got != bytes || e != api.OK {
		t.Errorf("Read = %q, %d, want %q, OK", got, e, bytes)
	}
	n, e := d.Safe()
	if n != safe || e != api.OK {
		t.Errorf("Safe = %d, %d, want %d, OK", n, e, safe)
	}
}

// wantDead asks every call of a device that can for ErrDead, and for nothing beside it.
func wantDead(t *testing.T, d *handout.Device) {
	t.Helper()
	tooMuch := strings.Repeat("x", api.MaxQuota+1)
	wantErrno(t, "Append, dead", d.Append(""), api.ErrDead)
	wantErrno(t, "Append of too much, dead", d.Append(tooMuch), api.ErrDead)
	wantErrno(t, "Sync, dead", d.Sync(), api.ErrDead)
	wantErrno(t, "Swap, dead", d.Swap(""), api.ErrDead)
	wantErrno(t, "Swap of too much, dead", d.Swap(tooMuch), api.ErrDead)
	if got, e := d.Read(); got != "" || e != api.ErrDead {
		t.Errorf("Read, dead = %q, %d, want nothing, ErrDead", got, e)
	}
	if n, e := d.Safe(); n != 0 || e != api.ErrDead {
		t.Errorf("Safe, dead = %d, %d, want 0, ErrDead", n, e)
	}
}

func TestP3QuotaThatMayNotBe(t *testing.T) {
	for _, quota := range []int{math.MinInt, math.MinInt + 1, -api.MaxQuota, -2, -1, api.MaxQuota + 1, 2 * api.MaxQuota, 1 << 32, math.MaxInt} {
		if d, e := handout.NewDevice(quota); d != nil || e != api.ErrArg {
			t.Errorf("NewDevice(%d) = %v, %d, want nil, ErrArg", quota, d, e)
		}
	}
}

func TestP3NewDeviceHoldsItsQuota(t *testing.T) {
	for _, quota := range []int{0, 1, 2, 10, 4096, api.MaxQuota - 1, api.MaxQuota} {
		d := newDevice(t, quota)
		wantBytes(t, d, "", 0)
		all := strings.Repeat("q", quota)
		wantErrno(t, "Append of one too many", d.Append(all+"x"), api.ErrFull)
		wantErrno(t, "Append of the quota", d.Append(all), api.OK)
		wantBytes(t, d, all, 0)
		wantErrno(t, "Append of one more", d.Append("x"), api.ErrFull)
		wantErrno(t, "Append of nothing more", d.Append(""), api.OK)
		wantBytes(t, d, all, 0)
	}
}

func TestP3NewDeviceHasNoFuse(t *testing.T) {
	d := newDevice(t, 3)
	for range 100 {
		wantErrno(t, "Sync", d.Sync(), api.OK)
		wantErrno(t, "Swap", d.Swap("abc"), api.OK)
		wantErrno(t, "Append", d.Append(""), api.OK)
	}
	wantBytes(t, d, "abc", 3)
}

func TestP4AppendStandsBehindAndIsNotSafe(t *testing.T) {
	d := newDevice(t, 8)
	wantErrno(t, "Append", d.Append("ab"), api.OK)
	wantBytes(t, d, "ab", 0)
	wantErrno(t, "Append", d.Append("\x00\xff"), api.OK)
	wantBytes(t, d, "ab\x00\xff", 0)
	wantErrno(t, "Sync", d.Sync(), api.OK)
	wantBytes(t, d, "ab\x00\xff", 4)
	wantErrno(t, "Append", d.Append("é"), api.OK)
	wantBytes(t, d, "ab\x00\xffé", 4)
	wantErrno(t, "Append of one byte too many", d.Append("xyz"), api.ErrFull)
	wantBytes(t, d, "ab\x00\xffé", 4)
	wantErrno(t, "Append to the brim", d.Append("xy"), api.OK)
	wantBytes(t, d, "ab\x00\xfféxy", 4)
}

func TestP4SyncMakesAllSafe(t *testing.T) {
	d := newDevice(t, 6)
	wantErrno(t, "Sync of nothing", d.Sync(), api.OK)
	wantBytes(t, d, "", 0)
	wantErrno(t, "Append", d.Append("abc"), api.OK)
	wantErrno(t, "Sync", d.Sync(), api.OK)
	wantErrno(t, "Sync, once more", d.Sync(), api.OK)
	wantBytes(t, d, "abc", 3)
	wantErrno(t, "Append", d.Append("def"), api.OK)
	wantErrno(t, "Sync of a full device", d.Sync(), api.OK)
	wantBytes(t, d, "abcdef", 6)
}

func TestP4SwapTakesThePlaceOfAll(t *testing.T) {
	d := newDevice(t, 5)
	wantErrno(t, "Append", d.Append("abc"), api.OK)
	wantErrno(t, "Swap of too much", d.Swap("123456"), api.ErrFull)
	wantBytes(t, d, "abc", 0)
	wantErrno(t, "Swap by the quota", d.Swap("12345"), api.OK)
	wantBytes(t, d, "12345", 5)
	wantErrno(t, "Swap of too much", d.Swap("abcdef"), api.ErrFull)
	wantBytes(t, d, "12345", 5)
	wantErrno(t, "Swap by less", d.Swap("x"), api.OK)
	wantBytes(t, d, "x", 1)
	wantErrno(t, "Append", d.Append("yz"), api.OK)
	wantBytes(t, d, "xyz", 1)
	wantErrno(t, "Swap by nothing", d.Swap(""), api.OK)
	wantBytes(t, d, "", 0)
	wantErrno(t, "Append of the quota", d.Append("abcde"), api.OK)
	wantBytes(t, d, "abcde", 0)
}

func TestP4QuotaNoneHoldsNothing(t *testing.T) {
	d := newDevice(t, 0)
	wantErrno(t, "Append", d.Append("x"), api.ErrFull)
	wantErrno(t, "Swap", d.Swap("x"), api.ErrFull)
	wantErrno(t, "Append of nothing", d.Append(""), api.OK)
	wantErrno(t, "Swap by nothing", d.Swap(""), api.OK)
	wantErrno(t, "Sync", d.Sync(), api.OK)
	wantBytes(t, d, "", 0)
}

func TestP4ReadAndSafeChangeNothing(t *testing.T) {
	d := newDevice(t, 5)
	wantErrno(t, "Append", d.Append("ab"), api.OK)
	wantErrno(t, "Sync", d.Sync(), api.OK)
	wantErrno(t, "Append", d.Append("c"), api.OK)
	d.Fuse(1)
	for range 5 {
		wantBytes(t, d, "abc", 2)
	}
	wantErrno(t, "Append, the fuse's last", d.Append("d"), api.OK)
	wantBytes(t, d, "abcd", 2)
	wantErrno(t, "Append behind the fuse", d.Append("e"), api.ErrDead)
}
