// Package handout: queues of tasks, handed out under leases, and the device they stand on: see DOC.md.
package handout

import (
	"slices"

	"handout/api"
	"handout/journal"
)

// Service hands tasks out.
type Service struct {
	device  *Device
	changes int // of the device, as far as this service knows of them
	config  api.Config
	now     int          // ticks that have gone by
	tasks   []task       // in the order of their numbers, from 1 on
	polls   []*poll      // in the order of their tickets
	tickets int          // that were given
	room    []int        // of each queue
	serves  int          // tasks that were handed out
	served  map[lane]int // which one of these was a key's last
}

// Open opens the service on a device (P6).
func Open(d *Device, c api.Config) (*Service, api.Errno) {
	if d == nil || !isConfig(c) {
		return nil, api.ErrArg
	}
	d.opened = nil
	text, e := d.Read()
	if e != api.OK {
		return nil, e
	}
	s := newService(d, c)
	whole, ok := journal.Scan(text, s.replay)
	if !ok {
		return nil, api.ErrBroken
	}
	if e := s.settle(whole < len(text)); e != api.OK {
		return nil, e
	}
	d.opened = s
	return s, api.OK
}

func isConfig(c api.Config) bool {
	return within(c.Queues, 1, api.MaxQueues) &&
		within(c.Parts, 1, api.MaxParts) &&
		within(c.Rate, 0, api.MaxRate) &&
		within(c.Burst, 1, api.MaxBurst) &&
		within(c.Attempts, 1, api.MaxAttempts) &&
		within(c.Lease, 1, api.MaxTicks) &&
		within(c.Wait, 0, api.MaxTicks) &&
		within(c.Bond, 0, api.MaxTicks)
}

func newService(d *Device, c api.Config) *Service {
	return &Service{
		device: d,
		config: c,
		room:   slices.Repeat([]int{c.Burst}, c.Queues),
		served: map[lane]int{},
	}
}

// ready says what every call asks first (P6). The nil that Open gives beside
// an error was never open.
func (s *Service) ready() api.Errno {
	if s == nil || s.device == nil || s.device.opened != s {
		return api.ErrClosed
	}
	if s.device.isDead() {
		return api.ErrDead
	}
	return api.OK
}

func (s *Service) hasQueue(queue int) bool {
	return within(queue, 0, s.config.Queues-1)
}

func (s *Service) hasTask(id int) bool {
	return within(id, 1, len(s.tasks))
}

func (s *Service) isBuried(id int) bool {
	return s.hasTask(id) && s.task(id).where == api.Dead
}

func (s *Service) task(id int) *task {
	return &s.tasks[id-1]
}

// Enqueue takes a task (P8).
func (s *Service) Enqueue(t api.Task) (int, api.Errno) {
	if e := s.ready(); e != api.OK {
		return 0, e
	}
	switch {
	case !isTask(t):
		return 0, api.ErrArg
	case !s.hasQueue(t.Queue):
		return 0, api.ErrQueue
	case len(s.tasks) >= api.MaxTasks:
		return 0, api.ErrMany
	case journal.Size(len(s.tasks)+1) > s.device.quota:
		return 0, api.ErrFull
	}
	e := s.write(func(pieces chan<- string) {
		s.take(t, pieces)
		s.serve(pieces)
	})
	if e != api.OK {
		return 0, e
	}
	return len(s.tasks), api.OK
}

// State tells where a task is, and how often it was handed out (P8).
func (s *Service) State(id int) (int, int, api.Errno) {
	if e := s.ready(); e != api.OK {
		return 0, 0, e
	}
	if !s.hasTask(id) {
		return 0, 0, api.ErrTask
	}
	t := s.task(id)
	return t.where, t.times, api.OK
}

// Poll asks for a task (P9).
func (s *Service) Poll(queue int, part int, worker int) (int, api.Errno) {
	if e := s.ready(); e != api.OK {
		return 0, e
	}
	switch {
	case !within(part, 0, s.config.Parts-1) || !within(worker, 0, api.MaxWorker):
		return 0, api.ErrArg
	case !s.hasQueue(queue):
		return 0, api.ErrQueue
	case len(s.polls) >= api.MaxPolls:
		return 0, api.ErrMany
	}
	s.tickets++
	s.polls = append(s.polls, &poll{
		ticket: s.tickets, queue: queue, part: part, worker: worker,
		end: s.now + s.config.Wait, waits: true, answer: make(chan api.Grant, 1),
	})
	if e := s.write(s.serve); e != api.OK {
		return 0, e
	}
	s.endPolls()
	return s.tickets, api.OK
}

// Finish tells what came of a poll (P9).
func (s *Service) Finish(ticket int) (api.Grant, api.Errno) {
	if e := s.ready(); e != api.OK {
		return api.Grant{}, e
	}
	i := slices.IndexFunc(s.polls, func(p *poll) bool { return p.ticket == ticket })
	if i < 0 {
		return api.Grant{}, api.ErrTicket
	}
	p := s.polls[i]
	if p.waits {
		return api.Grant{}, api.ErrWait
	}
	s.polls = slices.Delete(s.polls, i, i+1)
	g, ok := <-p.answer
	if !ok {
		return api.Grant{}, api.ErrNone
	}
	return g, api.OK
}

// Complete ends a task (P12).
func (s *Service) Complete(id int, token int) api.Errno {
	if e := s.leased(id, token); e != api.OK {
		return e
	}
	return s.write(func(pieces chan<- string) { s.complete(id, pieces) })
}

// Beat lets a lease last longer (P12).
func (s *Service) Beat(id int, token int) api.Errno {
	if e := s.leased(id, token); e != api.OK {
		return e
	}
	s.task(id).leaseEnd = s.now + s.config.Lease
	return api.OK
}

// Fail gives a task back (P12).
func (s *Service) Fail(id int, token int) api.Errno {
	if e := s.leased(id, token); e != api.OK {
		return e
	}
	s.task(id).endLease()
	return s.write(s.serve)
}

// leased says what every call by a token asks first (P12).
func (s *Service) leased(id int, token int) api.Errno {
	if e := s.ready(); e != api.OK {
		return e
	}
	if !s.hasTask(id) {
		return api.ErrTask
	}
	if t := s.task(id); t.where != api.Leased || t.token != token {
		return api.ErrStale
	}
	return api.OK
}

// Tick lets time go on (P13).
func (s *Service) Tick(n int) api.Errno {
	if e := s.ready(); e != api.OK {
		return e
	}
	if !within(n, 0, api.MaxTicks) {
		return api.ErrArg
	}
	// One writing for all ticks: a crash must not leave some of them.
	return s.write(func(pieces chan<- string) {
		for range n {
			s.tick(pieces)
		}
	})
}

// Buried tells the dead tasks of a queue (P14).
func (s *Service) Buried(queue int) ([]int, api.Errno) {
	if e := s.ready(); e != api.OK {
		return nil, e
	}
	if !s.hasQueue(queue) {
		return nil, api.ErrQueue
	}
	var ids []int
	for id := 1; id <= len(s.tasks); id++ {
		if s.isBuried(id) && s.task(id).Queue == queue {
			ids = append(ids, id)
		}
	}
	return ids, api.OK
}

// Requeue brings a dead task back (P14).
func (s *Service) Requeue(id int) api.Errno {
	if e := s.ready(); e != api.OK {
		return e
	}
	if !s.isBuried(id) {
		return api.ErrTask
	}
	return s.write(func(pieces chan<- string) {
		s.bringBack(id, pieces)
		s.serve(pieces)
	})
}
