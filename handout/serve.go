package handout

import (
	"handout/api"
	"handout/journal"
)

// poll is one whose ticket is out.
type poll struct {
	ticket int
	queue  int
	part   int
	worker int
	end    int // the tick that ends the waiting
	waits  bool
	// The answer has room for the grant: who sends it does not wait for who
	// finishes the poll.
	answer chan api.Grant
}

// give ends the poll with a grant.
func (p *poll) give(g api.Grant) {
	p.waits = false
	p.answer <- g
	close(p.answer)
}

// giveUp ends the poll without one.
func (p *poll) giveUp() {
	p.waits = false
	close(p.answer)
}

// lane is what a key is served in. (Its partition hangs on the key alone.)
type lane struct {
	queue int
	key   string
}

// serve serves the polls (P10). Once through is enough: what was handed out
// gives no other poll a task or room.
func (s *Service) serve(pieces chan<- string) {
	for _, p := range s.polls {
		if !p.waits || s.room[p.queue] == 0 {
			continue
		}
		if id := s.pick(p); id > 0 {
			p.give(s.handOut(id, pieces))
		}
	}
}

// pick finds the task that the poll is to get; 0: none fits.
func (s *Service) pick(p *poll) int {
	best := 0
	for id := 1; id <= len(s.tasks); id++ {
		if s.fits(id, p) && (best == 0 || s.isAhead(id, best)) {
			best = id
		}
	}
	return best
}

func (s *Service) fits(id int, p *poll) bool {
	t := s.task(id)
	return t.where == api.Pending &&
		t.Queue == p.queue && part(t.Key, s.config.Parts) == p.part &&
		(t.Worker == 0 || t.Worker == p.worker || t.bondEnd <= s.now)
}

// isAhead holds a task against one of a lesser number, which is ahead if
// nothing else tells them apart.
func (s *Service) isAhead(id, lesser int) bool {
	t, u := s.task(id), s.task(lesser)
	if t.Priority != u.Priority {
		return t.Priority > u.Priority
	}
	return s.served[t.lane()] < s.served[u.lane()]
}

func (t *task) lane() lane {
	return lane{t.Queue, t.Key}
}

// handOut leases a task.
func (s *Service) handOut(id int, pieces chan<- string) api.Grant {
	t := s.task(id)
	t.lease(s.config.Attempts)
	t.leaseEnd = s.now + s.config.Lease
	s.room[t.Queue]--
	s.serves++
	s.served[t.lane()] = s.serves
	r := journal.Record{Kind: journal.Lease, Numbers: [6]int{id, t.attempts}}
	pieces <- r.Line()
	return api.Grant{ID: id, Token: t.token, Attempt: t.times, Payload: t.Payload}
}

// complete ends a task for good.
func (s *Service) complete(id int, pieces chan<- string) {
	s.task(id).where = api.Done
	r := journal.Record{Kind: journal.Done, Numbers: [6]int{id}}
	pieces <- r.Line()
}

// bringBack lets a dead task start again.
func (s *Service) bringBack(id int, pieces chan<- string) {
	s.task(id).startAgain()
	r := journal.Record{Kind: journal.Again, Numbers: [6]int{id}}
	pieces <- r.Line()
}
