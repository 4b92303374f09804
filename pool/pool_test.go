package pool

import (
	"slices"
	"testing"

	"winepress/api"
	"winepress/samples"
)

func mustNew(t *testing.T, jobs, workers, room int) *Pool {
	t.Helper()
	p, e := New(jobs, workers, room)
	if e != api.OK || p == nil {
		t.Fatalf("New(%d, %d, %d): %d", jobs, workers, room, e)
	}
	return p
}

func TestNewP21_1(t *testing.T) {
	huge := 1<<63 - 1
	for _, c := range [][3]int{
		{-1, 1, 1}, {10001, 1, 1}, {huge, 1, 1}, {-huge - 1, 1, 1}, {1, 0, 1}, {1, 65, 1}, {1, -1, 1}, {1, huge, 1}, {1, 1, 0}, {1, 1, 65}, {1, 1, -1}, {1, 1, huge},
	} {
		if p, e := New(c[0], c[1], c[2]); e != api.ErrArg || p != nil {
			t.Errorf("%v: %d", c, e)
		}
	}
	for _, c := range [][3]int{{0, 1, 1}, {10000, 1, 1}, {1, 64, 1}, {1, 1, 64}, {0, 64, 64}} {
		mustNew(t, c[0], c[1], c[2])
	}
}

func TestExampleP21_1(t *testing.T) {
	p := mustNew(t, 1, 1, 1)
	for i, actor := range []int{0, 1, 1, 2} {
		if !slices.Equal(p.Enabled(), []int{actor}) || p.Done() {
			t.Fatalf("step %d: %v", i, p.Enabled())
		}
		if job, e := p.Step(actor); job != 0 || e != api.OK {
			t.Fatalf("step %d: %d, %d", i, job, e)
		}
	}
	if !p.Done() || len(p.Enabled()) != 0 || !slices.Equal(p.Out(), []int{0}) {
		t.Error("not done")
	}
}

// slow is a pool as the document words it: jobs are in one of five places.
type slow struct {
	jobs, workers, room int
	next                int
	queue, waits, out   []int
	has                 map[int]int
}

func (s *slow) alive() int {
	return len(s.queue) + len(s.has) + len(s.waits)
}

func (s *slow) enabled() []int {
	var l []int
	if s.next < s.jobs && len(s.queue) < s.room && s.alive() < s.workers+s.room+1 {
		l = append(l, 0)
	}
	for w := 1; w <= s.workers; w++ {
		if _, busy := s.has[w]; busy || len(s.queue) > 0 {
			l = append(l, w)
		}
	}
	if slices.Contains(s.waits, len(s.out)) {
		l = append(l, s.workers+1)
	}
	return l
}

func (s *slow) step(actor int) int {
	job, busy := s.has[actor]
	switch {
	case actor == 0:
		s.queue = append(s.queue, s.next)
		s.next++
		return s.next - 1
	case actor == s.workers+1:
		job = len(s.out)
		s.out = append(s.out, job)
		s.waits = slices.DeleteFunc(s.waits, func(n int) bool { return n == job })
	case busy:
		delete(s.has, actor)
		s.waits = append(s.waits, job)
	default:
		job, s.queue = s.queue[0], s.queue[1:]
		s.has[actor] = job
	}
	return job
}

// Whoever takes the steps, the pool is at each step as the document says; it is done after four steps for each job.
func TestAnyScheduleP21_3(t *testing.T) {
	for seed := range 150 {
		jobs, workers, room := seed%23, 1+seed%5, 1+seed%3
		p := mustNew(t, jobs, workers, room)
		s := &slow{jobs: jobs, workers: workers, room: room, has: map[int]int{}}
		steps := 0
		for _, v := range append(samples.Numbers(seed, 4*jobs, 1<<20), 0) {
			l := p.Enabled()
			if !slices.Equal(l, s.enabled()) || p.Alive() != s.alive() || p.Waiting() != len(s.waits) || !slices.Equal(p.Out(), s.out) {
				t.Fatalf("seed %d, step %d: %v, not %v; %d alive, %d wait", seed, steps, l, s.enabled(), p.Alive(), p.Waiting())
			}
			if p.Alive() > workers+room+1 || p.Done() != (len(l) == 0) || p.Done() != (steps == 4*jobs) {
				t.Fatalf("seed %d, step %d: %d alive, done %v, enabled %v", seed, steps, p.Alive(), p.Done(), l)
			}
			if len(l) == 0 {
				break
			}
			actor := l[v%len(l)]
			switch seed % 4 {
			case 1: // jobs are split off as early as possible
				actor = l[0]
			case 2: // jobs are collected as early as possible
				actor = l[len(l)-1]
			}
			if job, e := p.Step(actor); e != api.OK || job != s.step(actor) {
				t.Fatalf("seed %d, step %d, actor %d: %d, %d", seed, steps, actor, job, e)
			}
			steps++
		}
		if !p.Done() || !slices.IsSorted(p.Out()) || len(p.Out()) != jobs {
			t.Errorf("seed %d: not done, or not in order: %v", seed, p.Out())
		}
	}
}

// At most as many jobs are alive as permitted, even if all but the first are finished.
func TestManyAliveP21_1(t *testing.T) {
	p := mustNew(t, 100, 3, 2)
	p.Step(0)
	p.Step(1) // the first worker keeps job 0
	for {
		l := slices.DeleteFunc(p.Enabled(), func(actor int) bool { return actor == 1 })
		if len(l) == 0 {
			break
		}
		p.Step(l[0])
	}
	if p.Alive() != 6 || p.Waiting() != 5 || !slices.Equal(p.Enabled(), []int{1}) {
		t.Errorf("%d alive, %d wait, %v", p.Alive(), p.Waiting(), p.Enabled())
	}
}

func TestStepErrorsP21_1(t *testing.T) {
	p := mustNew(t, 2, 2, 1)
	p.Step(0)
	for _, actor := range []int{-1, 0, 3, 4, 1<<63 - 1, -1 << 63} {
		if job, e := p.Step(actor); job != 0 || e != api.ErrArg {
			t.Errorf("actor %d is not enabled: %d, %d", actor, job, e)
		}
	}
	if !slices.Equal(p.Enabled(), []int{1, 2}) || p.Alive() != 1 {
		t.Error("a step that failed had an effect")
	}
	p.Step(2)
	p.Step(0)
	if job, e := p.Step(1); job != 1 || e != api.OK {
		t.Errorf("the second job: %d, %d", job, e)
	}
	if job, e := p.Step(1); job != 1 || e != api.OK || p.Waiting() != 1 || len(p.Out()) != 0 {
		t.Errorf("the second job is finished first: %d, %d", job, e)
	}
	if _, e := p.Step(3); e != api.ErrArg {
		t.Error("the first job is not finished yet")
	}
}

func TestNoJobsP21_2(t *testing.T) {
	p := mustNew(t, 0, 3, 3)
	if !p.Done() || len(p.Enabled()) != 0 || len(p.Out()) != 0 || p.Alive() != 0 || p.Waiting() != 0 {
		t.Error("no jobs: done at once")
	}
}

func TestNilP21_2(t *testing.T) {
	var p *Pool
	if _, e := p.Step(0); e != api.ErrArg || len(p.Enabled()) != 0 || len(p.Out()) != 0 || p.Alive() != 0 || p.Waiting() != 0 || p.Done() {
		t.Error("a nil pool has no actors and no jobs, and is not done")
	}
}

// Results are new memory.
func TestNewMemoryP0(t *testing.T) {
	p := mustNew(t, 3, 1, 1)
	for _, actor := range []int{0, 1, 1, 2, 0} {
		p.Step(actor)
	}
	clear(p.Enabled())
	out := p.Out()
	out[0] = 9
	if !slices.Equal(p.Enabled(), []int{1}) || !slices.Equal(p.Out(), []int{0}) {
		t.Error("the pool's own lists were handed out")
	}
}
