package handout_test

import (
	"math"
	"math/rand/v2"
	"slices"
	"sort"
	"testing"

	"handout/api"
	"handout/handout"
	"handout/journal"
)

// modelTask and the others are the service as the document tells it, without
// a device, and held in another way than the service.
type modelTask struct {
	api.Task
	bondTicks, leaseTicks int // that are left
	where, times          int
	attemptsOfLease       int
	lease                 int // its lease among all of the model, which are counted from 1 on
}

type modelPoll struct {
	ticket, queue, part, worker int
	ticks                       int // that are left
	ended                       bool
	lease                       int
	grant                       api.Grant // without a token
}

type modelService struct {
	api.Config
	tasks   []modelTask
	polls   []modelPoll
	tickets int
	room    []int
	leases  int
	history []string // the queues and keys that were served, the last one last
}

func newModel(c api.Config, tasks []modelTask, leases int) *modelService {
	return &modelService{Config: c, tasks: tasks, leases: leases, room: slices.Repeat([]int{c.Burst}, c.Queues)}
}

func (m *modelService) copy() *modelService {
	n := *m
	n.tasks, n.polls = slices.Clone(m.tasks), slices.Clone(m.polls)
	n.room, n.history = slices.Clone(m.room), slices.Clone(m.history)
	return &n
}

// leaseOver is what becomes of a task that was leased.
func (t modelTask) leaseOver() modelTask {
	t.where, t.leaseTicks, t.lease = api.Dead, 0, 0
	if t.times < t.attemptsOfLease {
		t.where = api.Pending
	}
	return t
}

// opened is the model of the service that is opened next.
func (m *modelService) opened(c api.Config) *modelService {
	tasks := slices.Clone(m.tasks)
	for i := range tasks {
		tasks[i].bondTicks = 0
		if tasks[i].where == api.Leased {
			tasks[i] = tasks[i].leaseOver()
		}
	}
	return newModel(c, tasks, m.leases)
}

func laneOf(t api.Task) string {
	return string(rune('0'+t.Queue)) + t.Key
}

func (m *modelService) lastServed(t api.Task) int {
	for i := len(m.history) - 1; i >= 0; i-- {
		if m.history[i] == laneOf(t) {
			return i
		}
	}
	return -1
}

func (m *modelService) fitting(p modelPoll) []int {
	var ids []int
	for i, t := range m.tasks {
		sum := 0
		for _, b := range []byte(t.Key) {
			sum += int(b)
		}
		mine := t.Worker == 0 || t.bondTicks == 0 || t.Worker == p.worker
		if t.where == api.Pending && t.Queue == p.queue && sum%m.Parts == p.part && mine {
			ids = append(ids, i+1)
		}
	}
	return ids
}

func (m *modelService) serve() {
	for i := range m.polls {
		p := &m.polls[i]
		ids := m.fitting(*p)
		if p.ended || m.room[p.queue] == 0 || len(ids) == 0 {
			continue
		}
		sort.SliceStable(ids, func(a, b int) bool {
			t, u := m.tasks[ids[a]-1], m.tasks[ids[b]-1]
			if t.Priority == u.Priority {
				return m.lastServed(t.Task) < m.lastServed(u.Task)
			}
			return t.Priority > u.Priority
		})
		t := &m.tasks[ids[0]-1]
		m.leases++
		t.where, t.times, t.attemptsOfLease = api.Leased, t.times+1, m.Attempts
		t.lease, t.leaseTicks = m.leases, m.Lease
		p.ended, p.lease = true, m.leases
		p.grant = api.Grant{ID: ids[0], Attempt: t.times, Payload: t.Payload}
		m.room[p.queue]--
		m.history = append(m.history, laneOf(t.Task))
	}
}

func (m *modelService) enqueue(t api.Task) (int, api.Errno) {
	switch {
	case t.Key == "" || len(t.Key) > 8 || t.Priority < 0 || t.Priority > 9 || len(t.Payload) > 40 || t.Worker < 0 || t.Worker > 99:
		return 0, api.ErrArg
	case t.Queue < 0 || t.Queue >= m.Queues:
		return 0, api.ErrQueue
	case len(m.tasks) == 300:
		return 0, api.ErrMany
	}
	m.tasks = append(m.tasks, modelTask{Task: t, bondTicks: m.Bond})
	m.serve()
	return len(m.tasks), api.OK
}

func (m *modelService) poll(queue, part, worker int) (int, api.Errno) {
	switch {
	case part < 0 || part >= m.Parts || worker < 0 || worker > 99:
		return 0, api.ErrArg
	case queue < 0 || queue >= m.Queues:
		return 0, api.ErrQueue
	case len(m.polls) == 20:
		return 0, api.ErrMany
	}
	m.tickets++
	m.polls = append(m.polls, modelPoll{ticket: m.tickets, queue: queue, part: part, worker: worker, ticks: m.Wait})
	m.serve()
	if m.Wait == 0 {
		m.polls[len(m.polls)-1].ended = true
	}
	return m.tickets, api.OK
}

// finish tells the lease beside the grant.
func (m *modelService) finish(ticket int) (api.Grant, int, api.Errno) {
	for i, p := range m.polls {
		if p.ticket != ticket {
			continue
		}
		if !p.ended {
			return api.Grant{}, 0, api.ErrWait
		}
		m.polls = slices.Delete(m.polls, i, i+1)
		if p.lease == 0 {
			return api.Grant{}, 0, api.ErrNone
		}
		return p.grant, p.lease, api.OK
	}
	return api.Grant{}, 0, api.ErrTicket
}

// byLease makes one of the three calls by a token, which is told by the lease
// that it is of (0: none).
func (m *modelService) byLease(call string, id, lease int) api.Errno {
	if id < 1 || id > len(m.tasks) {
		return api.ErrTask
	}
	t := &m.tasks[id-1]
	if t.where != api.Leased || t.lease != lease {
		return api.ErrStale
	}
	switch call {
	case "Complete":
		t.where = api.Done
	case "Beat":
		t.leaseTicks = m.Lease
	case "Fail":
		*t = t.leaseOver()
		m.serve()
	}
	return api.OK
}

func (m *modelService) tick(n int) api.Errno {
	if n < 0 || n > 100 {
		return api.ErrArg
	}
	for ; n > 0; n-- {
		for queue := range m.room {
			m.room[queue] = min(m.room[queue]+m.Rate, m.Burst)
		}
		for i := range m.tasks {
			t := &m.tasks[i]
			t.bondTicks = max(0, t.bondTicks-1)
			if t.leaseTicks--; t.where == api.Leased && t.leaseTicks == 0 {
				*t = t.leaseOver()
			}
		}
		m.serve()
		for i := range m.polls {
			p := &m.polls[i]
			p.ticks--
			p.ended = p.ended || p.ticks == 0
		}
	}
	return api.OK
}

func (m *modelService) buried(queue int) ([]int, api.Errno) {
	if queue < 0 || queue >= m.Queues {
		return nil, api.ErrQueue
	}
	var ids []int
	for i, t := range m.tasks {
		if t.where == api.Dead && t.Queue == queue {
			ids = append(ids, i+1)
		}
	}
	return ids, api.OK
}

func (m *modelService) requeue(id int) api.Errno {
	if id < 1 || id > len(m.tasks) || m.tasks[id-1].where != api.Dead {
		return api.ErrTask
	}
	t := m.tasks[id-1].Task
	t.Worker = 0
	m.tasks[id-1] = modelTask{Task: t}
	m.serve()
	return api.OK
}

// like says whether a service tells the model's tasks.
func (m *modelService) like(s *handout.Service) bool {
	for i, t := range m.tasks {
		if where, times, e := s.State(i + 1); where != t.where || times != t.times || e != api.OK {
			return false
		}
	}
	_, _, e := s.State(len(m.tasks) + 1)
	return e == api.ErrTask
}

// run is a random run of calls, of the service and of its model.
type run struct {
	t      *testing.T
	random *rand.Rand
	quota  int
	device *handout.Device
	s      *handout.Service
	m      *modelService
	leases map[[2]int]int // the model's lease of a task and its token
	told   []string
}

func (r *run) config() api.Config {
	n := r.random.IntN
	return api.Config{
		Queues: []int{1, 1, 2, 3, 4, 4}[n(6)], Parts: []int{1, 1, 2, 3}[n(4)], Rate: n(10), Burst: []int{1, 2, 5, 20}[n(4)],
		Attempts: []int{1, 1, 1, 2, 3, 5}[n(6)], Lease: []int{1, 2, 5, 100}[n(4)], Wait: []int{0, 1, 4, 100}[n(4)], Bond: []int{0, 1, 3, 100}[n(4)],
	}
}

func (r *run) task() api.Task {
	n := r.random.IntN
	t := api.Task{Queue: n(r.m.Queues), Key: string("abcde"[n(5)]), Priority: n(3), Payload: "p"[:n(2)], Worker: max(0, n(6)-3)}
	switch n(30) {
	case 0:
		t.Priority = []int{-1, 10, 9}[n(3)]
	case 1:
		t.Worker = []int{-1, 100, 99}[n(3)]
	case 2:
		t.Key = []string{"", "123456789", "12345678"}[n(3)]
	case 3:
		t.Queue = []int{-1, r.m.Queues, 9}[n(3)]
	}
	return t
}

// change makes a call that may write, with the device dying in it now and then.
func (r *run) change(name string, call func() (int, api.Errno), model func(*modelService) (int, api.Errno)) {
	r.told = append(r.told, name)
	dies := r.random.IntN(6) == 0
	if dies {
		r.device.Fuse(r.random.IntN(3))
	}
	before := r.m.copy()
	got, e := call()
	if e == api.ErrFull && got == 0 && name == "Enqueue" && r.quota < 512+160*(len(before.tasks)+1) {
		r.device.Fuse(-1)
		return
	}
	want, f := model(r.m)
	if e == api.ErrDead && got == 0 && dies {
		r.crash(before)
		return
	}
	r.device.Fuse(-1)
	if got != want || e != f {
		r.t.Fatalf("%v = %d, %d, want %d, %d", r.told, got, e, want, f)
	}
}

// crash: the call before it is done as a whole, or not at all.
func (r *run) crash(before *modelService) {
	r.told = append(r.told, "Crash")
	r.device.Crash(r.random.IntN(100) - 1)
	if s, e := r.s.Enqueue(api.Task{}); s != 0 || e != api.ErrClosed {
		r.t.Fatalf("%v: a call behind the crash = %d", r.told, e)
	}
	c := r.config()
	r.s = openOn(r.t, r.device, c)
	old, done := before.opened(c), r.m.opened(c)
	switch {
	case done.like(r.s):
		r.m = done
	case old.like(r.s):
		r.m = old
	default:
		r.t.Fatalf("%v: behind the crash the service is neither %+v nor %+v", r.told, old, done)
	}
}

// reopen: whatever answered OK is there.
func (r *run) reopen(crash bool) {
	r.told = append(r.told, "Open")
	if crash {
		r.device.Crash(-1)
	}
	c := r.config()
	r.s = openOn(r.t, r.device, c)
	r.m = r.m.opened(c)
}

// finish changes nothing on the device: there is a fuse that would tell.
func (r *run) finish() {
	ticket := r.m.tickets - r.random.IntN(25) + 1
	r.told = append(r.told, "Finish")
	want, lease, f := r.m.finish(ticket)
	r.device.Fuse(0)
	got, e := r.s.Finish(ticket)
	r.device.Fuse(-1)
	token := got.Token
	got.Token = 0
	if got != want || e != f || (token > 0) != (e == api.OK) {
		r.t.Fatalf("%v: Finish(%d) = %+v, %d, want %+v, %d", r.told, ticket, got, e, want, f)
	}
	if e != api.OK {
		return
	}
	if r.leases[[2]int{got.ID, token}] > 0 {
		r.t.Fatalf("%v: the token %d of the task %d comes again", r.told, token, got.ID)
	}
	r.leases[[2]int{got.ID, token}] = lease
}

// grant draws a task and a token: one that it had, mostly the last that was
// told of it, or one that no service gives.
func (r *run) grant() (int, int) {
	id := r.random.IntN(len(r.m.tasks)+3) - 1
	if r.random.IntN(10) == 0 {
		return id, []int{0, -1, -math.MaxInt, math.MinInt}[r.random.IntN(4)]
	}
	var tokens []int
	for of := range r.leases {
		if of[0] == id {
			tokens = append(tokens, of[1])
		}
	}
	if len(tokens) == 0 {
		return id, 0
	}
	slices.SortFunc(tokens, func(a, b int) int { return r.leases[[2]int{id, a}] - r.leases[[2]int{id, b}] })
	if r.random.IntN(4) == 0 {
		return id, tokens[r.random.IntN(len(tokens))]
	}
	return id, tokens[len(tokens)-1]
}

func (r *run) byToken() {
	id, token := r.grant()
	lease := r.leases[[2]int{id, token}]
	switch r.random.IntN(3) {
	case 0:
		r.change("Complete",
			func() (int, api.Errno) { return 0, r.s.Complete(id, token) },
			func(m *modelService) (int, api.Errno) { return 0, m.byLease("Complete", id, lease) })
	case 1:
		r.told = append(r.told, "Beat")
		r.device.Fuse(0)
		e, f := r.s.Beat(id, token), r.m.byLease("Beat", id, lease)
		r.device.Fuse(-1)
		if e != f {
			r.t.Fatalf("%v(%d, %d) = %d, want %d", r.told, id, token, e, f)
		}
	default:
		r.change("Fail",
			func() (int, api.Errno) { return 0, r.s.Fail(id, token) },
			func(m *modelService) (int, api.Errno) { return 0, m.byLease("Fail", id, lease) })
	}
}

func (r *run) enqueue() {
	x := r.task()
	r.change("Enqueue",
		func() (int, api.Errno) { return r.s.Enqueue(x) },
		func(m *modelService) (int, api.Errno) { return m.enqueue(x) })
}

func (r *run) poll() {
	n := r.random.IntN
	queue, part, worker := n(r.m.Queues), n(r.m.Parts), n(4)
	if n(5) == 0 {
		queue, part, worker = n(5)-n(2), n(4)-n(2), n(4)-n(2)
	}
	r.change("Poll",
		func() (int, api.Errno) { return r.s.Poll(queue, part, worker) },
		func(m *modelService) (int, api.Errno) { return m.poll(queue, part, worker) })
}

func (r *run) tick() {
	n := []int{0, 1, 1, 1, 2, 2, 3, 4, 100, 101, -1}[r.random.IntN(11)]
	r.change("Tick",
		func() (int, api.Errno) { return 0, r.s.Tick(n) },
		func(m *modelService) (int, api.Errno) { return 0, m.tick(n) })
}

// buried changes nothing on the device either, nor does the list that it tells.
func (r *run) buried() {
	queue := r.random.IntN(6) - 1
	r.told = append(r.told, "Buried")
	want, f := r.m.buried(queue)
	r.device.Fuse(0)
	for range 2 {
		got, e := r.s.Buried(queue)
		if !slices.Equal(got, want) || e != f {
			r.t.Fatalf("%v(%d) = %v, %d, want %v, %d", r.told, queue, got, e, want, f)
		}
		clear(got[:cap(got)])
	}
	r.device.Fuse(-1)
}

// requeue draws a dead task, mostly.
func (r *run) requeue() {
	id := r.random.IntN(len(r.m.tasks)+3) - 1
	for range 10 {
		if where, _, _ := r.s.State(id); where != api.Dead {
			id = r.random.IntN(len(r.m.tasks)+3) - 1
		}
	}
	r.change("Requeue",
		func() (int, api.Errno) { return 0, r.s.Requeue(id) },
		func(m *modelService) (int, api.Errno) { return 0, m.requeue(id) })
}

func (r *run) step() {
	n := r.random.IntN
	switch k := n(46); {
	case k < 9:
		r.enqueue()
	case k < 19:
		r.poll()
	case k < 28:
		r.finish()
	case k < 34:
		r.byToken()
	case k < 39:
		r.tick()
	case k < 43:
		r.requeue()
	case k < 45:
		r.buried()
	case n(2) == 0:
		r.reopen(n(2) == 0)
	}
	if !r.m.like(r.s) {
		r.t.Fatalf("%v: the service is another one than %+v", r.told, r.m)
	}
}

// newRun starts a run on a device with these bytes, which tell these tasks.
func newRun(t *testing.T, seed, quota int, bytes string, tasks []modelTask) *run {
	t.Helper()
	random := rand.New(rand.NewPCG(uint64(seed), 1))
	r := &run{t: t, random: random, quota: quota, device: newDevice(t, quota), leases: map[[2]int]int{}}
	wantErrno(t, "Swap", r.device.Swap(bytes), api.OK)
	c := r.config()
	r.s, r.m = openOn(t, r.device, c), newModel(c, tasks, 0)
	return r
}

// TestP6ToP15RandomRuns holds random runs, with crashes in the middle of
// calls, against the model.
func TestP6ToP15RandomRuns(t *testing.T) {
	for seed := range 1200 {
		r := newRun(t, seed, []int{150, 400, 900, 4000, api.MaxQuota}[seed%5], "", nil)
		for range 250 {
			r.step()
		}
	}
}

// othersTask draws a task that somebody else has written, and what it is in the model.
func othersTask(random *rand.Rand) (journal.Record, modelTask) {
	n := random.IntN
	key, priority, queue, done, times, attempts := string("abcde"[n(5)]), n(10), n(4), 0, n(6), 1+n(5)
	token := []int{times, 5 + n(9), math.MaxInt - n(5), n(math.MaxInt)}[n(4)]
	m := modelTask{Task: api.Task{Queue: queue, Key: key, Priority: priority, Payload: "payload"}, times: times, attemptsOfLease: attempts}
	switch {
	case times > 0 && n(4) == 0:
		done, m.where = 1, api.Done
	case times > 0:
		m = m.leaseOver()
	}
	return taskRecord(queue, priority, done, times, attempts, token, key), m
}

// TestP6ToP15RandomRunsOnOthersBytes begins with tasks that no service took.
func TestP6ToP15RandomRunsOnOthersBytes(t *testing.T) {
	for seed := range 600 {
		random := rand.New(rand.NewPCG(uint64(seed), 2))
		var records []journal.Record
		var tasks []modelTask
		for range 1 + random.IntN(8) {
			record, task := othersTask(random)
			records, tasks = append(records, record), append(tasks, task)
		}
		bytes := journalOf(records...)
		r := newRun(t, seed, len(bytes)+[]int{0, 3, 100, 1000}[seed%4], bytes, tasks)
		for range 150 {
			r.step()
		}
	}
}
