package handout

import "handout/api"

// tick lets one tick go by (P13).
func (s *Service) tick(pieces chan<- string) {
	s.now++
	for queue := range s.room {
		s.room[queue] = min(s.room[queue]+s.config.Rate, s.config.Burst)
	}
	s.endLeases()
	s.serve(pieces)
	s.endPolls()
}

// endLeases ends those whose ticks have gone by. (Bonds need no ending: what
// fits a poll asks how late it is.) Nothing is written of it: whoever reads the
// device next takes every lease for ended.
func (s *Service) endLeases() {
	for id := 1; id <= len(s.tasks); id++ {
		if t := s.task(id); t.where == api.Leased && t.leaseEnd <= s.now {
			t.endLease()
		}
	}
}

// endPolls ends those whose ticks have gone by.
func (s *Service) endPolls() {
	for _, p := range s.polls {
		if p.waits && p.end <= s.now {
			p.giveUp()
		}
	}
}
