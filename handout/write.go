package handout

import (
	"sync"

	"handout/api"
	"handout/journal"
)

// write does what a call has to do, and puts on the device what that has sent
// to be written: all of it, or (with ErrDead) maybe nothing.
func (s *Service) write(do func(pieces chan<- string)) api.Errno {
	text := gather(do)
	if text == "" {
		return api.OK
	}
	e := s.put(text)
	s.changes = s.device.changes
	return e
}

// put puts the writing of a call behind the others; if it has no place there,
// all tasks as they stand in the place of all.
func (s *Service) put(text string) api.Errno {
	e := api.ErrFull
	// Behind what somebody else has written it could not be read.
	if s.changes == s.device.changes {
		e = s.device.Append(text)
	}
	switch e {
	case api.OK:
		return s.device.Sync()
	case api.ErrFull:
		// There is room for the tasks: Enqueue has seen to that.
		return s.device.Swap(gather(s.sendAll))
	}
	return e
}

// settle leaves on the device what was read from it, so that what is written
// behind it can be read too, and no crash takes anything of it away.
func (s *Service) settle(torn bool) api.Errno {
	e := api.OK
	if torn {
		// There is room: the calls that are whole take no less than their tasks.
		e = s.device.Swap(gather(s.sendAll))
	} else if s.device.safe < len(s.device.bytes) {
		// Services sync what they write, but others may not.
		e = s.device.Sync()
	}
	s.changes = s.device.changes
	return e
}

// gather joins what is sent to the writing of one call.
func gather(send func(pieces chan<- string)) string {
	pieces := make(chan string)
	text := ""
	var gatherer sync.WaitGroup
	gatherer.Go(func() { text = journal.Gather(pieces) })
	send(pieces)
	close(pieces)
	gatherer.Wait()
	return text
}

// sendAll sends the shortest journal that tells what there is.
func (s *Service) sendAll(pieces chan<- string) {
	for id := 1; id <= len(s.tasks); id++ {
		s.send(id, pieces)
	}
}

// send sends a task as it stands. The first one opens the journal.
func (s *Service) send(id int, pieces chan<- string) {
	if id == 1 {
		pieces <- journal.Title
	}
	pieces <- s.task(id).record().Line()
}

// take takes a task, whose number is the next one.
func (s *Service) take(t api.Task, pieces chan<- string) {
	s.tasks = append(s.tasks, task{Task: t, bondEnd: s.now + s.config.Bond})
	s.send(len(s.tasks), pieces)
}

// replay does again what a record tells. It answers false, if no service can
// have written it here.
func (s *Service) replay(r journal.Record) bool {
	switch r.Kind {
	case journal.Task:
		t, ok := taskOf(r)
		s.tasks = append(s.tasks, t)
		return ok && len(s.tasks) <= api.MaxTasks
	case journal.Lease:
		return s.replayLease(r.Numbers[0], r.Numbers[1])
	case journal.Done:
		return s.replayDone(r.Numbers[0])
	default:
		return s.replayAgain(r.Numbers[0])
	}
}

func (s *Service) replayLease(id, attempts int) bool {
	if !s.hasTask(id) || s.task(id).where != api.Pending || !within(attempts, 1, api.MaxAttempts) {
		return false
	}
	s.task(id).lease(attempts)
	s.task(id).endLease()
	return true
}

func (s *Service) replayDone(id int) bool {
	if !s.hasTask(id) || s.task(id).times == 0 || s.task(id).where == api.Done {
		return false
	}
	s.task(id).where = api.Done
	return true
}

func (s *Service) replayAgain(id int) bool {
	if !s.isBuried(id) {
		return false
	}
	s.task(id).startAgain()
	return true
}
