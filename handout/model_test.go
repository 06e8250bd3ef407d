package handout_test

import (
	"testing"

	"handout/api"
	"handout/handout"
)

// model is a device as the document tells it, held in another way than the
// device: what is safe and what is loose apart, the fuse as a list of matches.
type model struct {
	safe, loose string
	fuse        []struct{}
	dead        bool
}

const modelQuota = 4

func (m model) change(full bool, done func(model) model) (model, api.Errno) {
	switch {
	case m.dead:
		return m, api.ErrDead
	case full:
		return m, api.ErrFull
	case m.fuse != nil && len(m.fuse) == 0:
		m.dead = true
		return m, api.ErrDead
	}
	if m.fuse != nil {
		m.fuse = m.fuse[1:]
	}
	return done(m), api.OK
}

func (m model) crash(keep int) model {
	for i := range len(m.loose) {
		if i < keep {
			m.safe += m.loose[i : i+1]
		}
	}
	return model{safe: m.safe}
}

// step is one call, of the device and of the model.
type step struct {
	name   string
	device func(*handout.Device) api.Errno
	model  func(model) (model, api.Errno)
}

func appendStep(bytes string) step {
	return step{"Append " + bytes,
		func(d *handout.Device) api.Errno { return d.Append(bytes) },
		func(m model) (model, api.Errno) {
			return m.change(len(m.safe+m.loose+bytes) > modelQuota, func(m model) model {
				m.loose += bytes
				return m
			})
		}}
}

func swapStep(bytes string) step {
	return step{"Swap " + bytes,
		func(d *handout.Device) api.Errno { return d.Swap(bytes) },
		func(m model) (model, api.Errno) {
			return m.change(len(bytes) > modelQuota, func(m model) model {
				m.safe, m.loose = bytes, ""
				return m
			})
		}}
}

func syncStep() step {
	return step{"Sync",
		func(d *handout.Device) api.Errno { return d.Sync() },
		func(m model) (model, api.Errno) {
			return m.change(false, func(m model) model {
				m.safe, m.loose = m.safe+m.loose, ""
				return m
			})
		}}
}

func fuseStep(name string, n int) step {
	return step{name,
		func(d *handout.Device) api.Errno { d.Fuse(n); return api.OK },
		func(m model) (model, api.Errno) {
			if m.dead {
				return m, api.OK
			}
			m.fuse = nil
			if n >= 0 {
				m.fuse = make([]struct{}, n)
			}
			return m, api.OK
		}}
}

func crashStep(name string, keep int) step {
	return step{name,
		func(d *handout.Device) api.Errno { d.Crash(keep); return api.OK },
		func(m model) (model, api.Errno) { return m.crash(keep), api.OK }}
}

func steps() []step {
	return []step{
		appendStep("a"), appendStep("bcd"), appendStep(""), syncStep(), swapStep("xy"), swapStep("12345"),
		fuseStep("Fuse off", -1), fuseStep("Fuse 0", 0), fuseStep("Fuse 1", 1), fuseStep("Fuse 2", 2),
		crashStep("Crash -1", -1), crashStep("Crash 1", 1), crashStep("Crash 9", 9),
	}
}

// agree holds what the device tells against what the model has.
func agree(d *handout.Device, m model) bool {
	bytes, e := d.Read()
	n, f := d.Safe()
	if m.dead {
		return bytes == "" && n == 0 && e == api.ErrDead && f == api.ErrDead
	}
	return bytes == m.safe+m.loose && n == len(m.safe) && e == api.OK && f == api.OK
}

// TestP4P5EveryShortRun goes through all runs of so many calls and holds each
// answer against the model's.
func TestP4P5EveryShortRun(t *testing.T) {
	const length = 5
	all := steps()
	runs := 1
	for range length {
		runs *= len(all)
	}
	for run := range runs {
		d := newDevice(t, modelQuota)
		m := model{}
		told := ""
		for rest, i := run, 0; i < length; rest, i = rest/len(all), i+1 {
			s := all[rest%len(all)]
			told += s.name + "; "
			var want api.Errno
			m, want = s.model(m)
			if got := s.device(d); got != want {
				t.Fatalf("%s answered %d, want %d", told, got, want)
			}
			if !agree(d, m) {
				t.Fatalf("%s left another device than %+v", told, m)
			}
		}
	}
}
