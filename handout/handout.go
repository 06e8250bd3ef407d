// Package handout: queues of tasks, handed out under leases, and the device they stand on: see DOC.md.
package handout

import "handout/api"

// Service hands tasks out.
type Service struct{}

// Open opens the service on a device (P6).
func Open(d *Device, c api.Config) (*Service, api.Errno) { return nil, api.OK }

// Enqueue takes a task (P8).
func (s *Service) Enqueue(t api.Task) (int, api.Errno) { return 0, api.OK }

// State tells where a task is, and how often it was handed out (P8).
func (s *Service) State(id int) (int, int, api.Errno) { return 0, 0, api.OK }

// Poll asks for a task (P9).
func (s *Service) Poll(queue int, part int, worker int) (int, api.Errno) { return 0, api.OK }

// Finish tells what came of a poll (P9).
func (s *Service) Finish(ticket int) (api.Grant, api.Errno) { return api.Grant{}, api.OK }

// Complete ends a task (P12).
func (s *Service) Complete(id int, token int) api.Errno { return api.OK }

// Beat lets a lease last longer (P12).
func (s *Service) Beat(id int, token int) api.Errno { return api.OK }

// Fail gives a task back (P12).
func (s *Service) Fail(id int, token int) api.Errno { return api.OK }

// Tick lets time go on (P13).
func (s *Service) Tick(n int) api.Errno { return api.OK }

// Buried tells the dead tasks of a queue (P14).
func (s *Service) Buried(queue int) ([]int, api.Errno) { return nil, api.OK }

// Requeue brings a dead task back (P14).
func (s *Service) Requeue(id int) api.Errno { return api.OK }
