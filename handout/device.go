package handout

import "handout/api"

// Device holds bytes.
type Device struct {
	quota int
	bytes []byte
	safe  int // how many of the bytes, the first ones, a crash leaves in any case
	fuse  int // changes that the fuse lets through still; below 0: there is no fuse
	dead  bool
	// How many changes were done: so a service sees whether others than itself
	// have written here.
	changes int
	// The service that is open here, if one is. Here, because a crash and
	// the next Open close it.
	opened *Service
}

// noFuse is not 0: a fuse that lets nothing through is there.
const noFuse = -1

// NewDevice makes a device (P3).
func NewDevice(quota int) (*Device, api.Errno) {
	if quota < 0 || quota > api.MaxQuota {
		return nil, api.ErrArg
	}
	return &Device{quota: quota, fuse: noFuse}, api.OK
}

// Append puts bytes behind the others (P4).
func (d *Device) Append(bytes string) api.Errno {
	if d.isDead() {
		return api.ErrDead
	}
	// Not the sum against the quota: a sum could wrap round.
	if len(bytes) > d.quota-len(d.bytes) {
		return api.ErrFull
	}
	if !d.burn() {
		return api.ErrDead
	}
	d.bytes = append(d.bytes, bytes...)
	return api.OK
}

// Sync makes all bytes safe (P4).
func (d *Device) Sync() api.Errno {
	if d.isDead() || !d.burn() {
		return api.ErrDead
	}
	d.safe = len(d.bytes)
	return api.OK
}

// Swap puts other bytes in the place of all (P4).
func (d *Device) Swap(bytes string) api.Errno {
	if d.isDead() {
		return api.ErrDead
	}
	if len(bytes) > d.quota {
		return api.ErrFull
	}
	if !d.burn() {
		return api.ErrDead
	}
	d.bytes = []byte(bytes)
	d.safe = len(d.bytes)
	return api.OK
}

// Read tells all bytes (P4).
func (d *Device) Read() (string, api.Errno) {
	if d.isDead() {
		return "", api.ErrDead
	}
	return string(d.bytes), api.OK
}

// Safe tells how many of them are safe (P4).
func (d *Device) Safe() (int, api.Errno) {
	if d.isDead() {
		return 0, api.ErrDead
	}
	return d.safe, api.OK
}

// Fuse lets the device die behind some changes (P5).
func (d *Device) Fuse(n int) {
	if d.isDead() {
		return
	}
	d.fuse = n
}

// Crash brings the device back (P5).
func (d *Device) Crash(keep int) {
	if d == nil {
		return
	}
	loose := len(d.bytes) - d.safe
	d.safe += min(max(keep, 0), loose)
	d.bytes = d.bytes[:d.safe]
	d.fuse = noFuse
	d.dead = false
	d.opened = nil
}

// isDead counts nil as dead too: NewDevice gives it beside an error, and a
// call of it may not panic (P1).
func (d *Device) isDead() bool {
	return d == nil || d.dead
}

// burn says whether the fuse lets one more change through, which is done then.
// It is asked last, because a change that is refused for another reason burns
// nothing off (P5).
func (d *Device) burn() bool {
	if d.fuse == 0 {
		d.dead = true
		return false
	}
	if d.fuse > 0 {
		d.fuse--
	}
	d.changes++
	return true
}
