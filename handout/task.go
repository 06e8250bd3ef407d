package handout

import (
	"math"

	"handout/api"
	"handout/journal"
)

// task is one that was taken. The worker in it is the one it is bound to.
type task struct {
	api.Task
	where    int
	times    int // that it was handed out
	attempts int // by the config under which it was handed out last
	token    int // of its last lease; 0: there was none
	bondEnd  int // the tick that ends the bond
	leaseEnd int // the tick that ends the lease
}

func isTask(t api.Task) bool {
	return within(len(t.Key), 1, api.MaxKey) &&
		within(t.Priority, 0, api.MaxPriority) &&
		within(len(t.Payload), 0, api.MaxPayload) &&
		within(t.Worker, 0, api.MaxWorker)
}

func within(n, least, most int) bool {
	return least <= n && n <= most
}

// part is the partition of a key, of so many.
func part(key string, parts int) int {
	sum := 0
	for i := range len(key) {
		sum += int(key[i])
	}
	return sum % parts
}

// lease hands the task out once more, by a config of so many attempts.
func (t *task) lease(attempts int) {
	t.where = api.Leased
	t.times++
	t.attempts = attempts
	// The tokens are counted. Behind the greatest number comes 1, because what
	// somebody else has written on a device may tell any number as the last one.
	t.token = t.token%math.MaxInt + 1
}

// endLease puts the task where it comes when its lease is over (P11).
func (t *task) endLease() {
	t.where = api.Pending
	if t.times >= t.attempts {
		t.where = api.Dead
	}
}

// startAgain makes the task one that was never handed out and is bound to
// nobody. Its token stays: no lease to come may have one from before.
func (t *task) startAgain() {
	t.where = api.Pending
	t.times = 0
	t.Worker = 0
}

// record is the task as it is to be found behind a crash. Neither its bond nor
// its lease outlasts that, so they are not in it.
func (t *task) record() journal.Record {
	done := 0
	if t.where == api.Done {
		done = 1
	}
	return journal.Record{
		Kind:    journal.Task,
		Numbers: [6]int{t.Queue, t.Priority, done, t.times, t.attempts, t.token},
		Texts:   [2]string{t.Key, t.Payload},
	}
}

// taskOf makes the task of a record, with its lease over. It answers false,
// if there can be no such task.
func taskOf(r journal.Record) (task, bool) {
	n := r.Numbers
	done, times, attempts, token := n[2], n[3], n[4], n[5]
	t := task{
		Task:  api.Task{Queue: n[0], Key: r.Texts[0], Priority: n[1], Payload: r.Texts[1]},
		times: times, attempts: attempts, token: token,
	}
	if times > 0 {
		t.endLease()
	}
	if done == 1 {
		t.where = api.Done
	}
	once := min(times, 1) // only what was handed out is done, or has had attempts
	return t, isTask(t.Task) && t.Queue < api.MaxQueues &&
		done <= once && times <= api.MaxAttempts &&
		within(attempts, once, api.MaxAttempts) && token >= 0
}
