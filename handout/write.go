package handout

import (
	"sync"

	"handout/api"
	"handout/journal"
)

// write does what a call has to do, and puts on the device what that has sent
// to be written: all of it, or (with ErrDead) maybe nothing.
func (s *Service) write(do func(pieces chan<- string)) api.Errno {
	text := gather(do)
	if text == "" {
		return api.OK
	}
	e := s.device.Append(text)
	if e == api.ErrFull {
		// There is room for the tasks as they stand: Enqueue has seen to that.
		return s.device.Swap(gather(s.sendAll))
	}
	if e != api.OK {
		return e
	}
	return s.device.Sync()
}

// gather joins what is sent to the writing of one call.
func gather(send func(pieces chan<- string)) string {
	pieces := make(chan string)
	text := ""
	var gatherer sync.WaitGroup
	gatherer.Go(func() { text = journal.Gather(pieces) })
	send(pieces)
	close(pieces)
	gatherer.Wait()
	return text
}

// sendAll sends the shortest journal that tells what there is.
func (s *Service) sendAll(pieces chan<- string) {
	for id := 1; id <= len(s.tasks); id++ {
		s.send(id, pieces)
	}
}

// send sends a task as it stands. The first one opens the journal.
func (s *Service) send(id int, pieces chan<- string) {
	if id == 1 {
		pieces <- journal.Title
	}
	pieces <- s.task(id).record().Line()
}

// take takes a task, whose number is the next one.
func (s *Service) take(t api.Task, pieces chan<- string) {
	s.tasks = append(s.tasks, task{Task: t, bondEnd: s.now + s.config.Bond})
	s.send(len(s.tasks), pieces)
}

// replay does again what a record tells. It answers false, if no service can
// have written it here.
func (s *Service) replay(r journal.Record) bool {
	switch r.Kind {
	case journal.Task:
		t, ok := taskOf(r)
		s.tasks = append(s.tasks, t)
		return ok && len(s.tasks) <= api.MaxTasks
	case journal.Lease:
		return s.replayLease(r.Numbers[0], r.Numbers[1])
	default:
		return s.replayDone(r.Numbers[0])
	}
}

func (s *Service) replayLease(id, attempts int) bool {
	if !s.hasTask(id) || s.task(id).where != api.Pending || !within(attempts, 1, api.MaxAttempts) {
		return false
	}
	s.task(id).lease(attempts)
	s.task(id).endLease()
	return true
}

func (s *Service) replayDone(id int) bool {
	if !s.hasTask(id) || s.task(id).times == 0 || s.task(id).where == api.Done {
		return false
	}
	s.task(id).where = api.Done
	return true
}
