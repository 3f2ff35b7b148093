package world_test

import (
	"slices"

	"remontoir/api"
	"remontoir/task"
	"remontoir/verdict"
)

// What follows is a system by the words of all chapters, as plain as it can be: tasks and jobs are told apart by where they are, and nothing is checked for a second time. Only whether a task is valid, and whether tasks fit, is asked of a layer.

type plainTask struct {
	api.Task
	leaving bool
	last    int
}

type plainJob struct {
	of        *plainTask
	due, want int
	had       int
}

type plainPart struct {
	face     api.Face
	tasks    []*plainTask
	jobs     []*plainJob
	log      log
	wantMore int // ticks that its interface still wants in this period
}

type plainLine struct {
	api.Port
	under, got []int
}

type plainSystem struct {
	parts []*plainPart
	lines []*plainLine
	now   int
}

func newPlain(c config) *plainSystem {
	s := &plainSystem{}
	for _, p := range c.Parts {
		x := &plainPart{face: p.Face}
		for _, t := range p.Tasks {
			x.tasks = append(x.tasks, &plainTask{Task: t, last: -1000})
		}
		s.parts = append(s.parts, x)
	}
	for _, p := range c.Ports {
		s.lines = append(s.lines, &plainLine{Port: p})
	}
	return s
}

func (s *plainSystem) note(p *plainPart, kind, task int) {
	if len(p.log) < 2000 {
		p.log = append(p.log, entry{At: s.now, Kind: kind, Task: task})
	}
}

func (s *plainSystem) release(p *plainPart, i, want int) api.Errno {
	if i < 0 || i >= len(p.tasks) || want < 1 || want > 200 {
		return api.ErrArg
	}
	x := p.tasks[i]
	switch {
	case x.leaving:
		return api.ErrState
	case s.now < x.last+x.T:
		s.note(p, api.Early, i)
		return api.ErrEarly
	case len(p.jobs) == 32:
		s.note(p, api.Full, i)
		return api.ErrFull
	}
	p.jobs = append(p.jobs, &plainJob{of: x, due: s.now + x.D, want: want})
	x.last = s.now
	s.note(p, api.Released, i)
	return api.OK
}

func (s *plainSystem) send(from, i, v int) api.Errno {
	switch {
	case i < 0 || i >= len(s.lines):
		return api.ErrNone
	case s.lines[i].From != from:
		return api.ErrDeny
	case len(s.lines[i].under) == s.lines[i].Cap:
		return api.ErrFull
	}
	s.lines[i].under = append(s.lines[i].under, v)
	return api.OK
}

func (s *plainSystem) read(to, i int) (int, api.Errno) {
	switch {
	case i < 0 || i >= len(s.lines):
		return 0, api.ErrNone
	case s.lines[i].To != to:
		return 0, api.ErrDeny
	case len(s.lines[i].got) == 0:
		return 0, api.ErrNone
	}
	v := s.lines[i].got[0]
	s.lines[i].got = s.lines[i].got[1:]
	return v, api.OK
}

func (p *plainPart) add(t api.Task) api.Errno {
	began := func(j *plainJob) bool { return j.had > 0 }
	switch {
	case !task.Right(t):
		return api.ErrArg
	case len(p.tasks) == 8:
		return api.ErrFull
	case slices.ContainsFunc(p.jobs, began):
		return api.ErrState
	}
	l := tasks{t}
	for _, x := range p.tasks {
		l = append(l, x.Task)
	}
	switch fits, err := verdict.Fits(l, p.face); {
	case err != api.OK:
		return err
	case !fits:
		return api.ErrDeny
	}
	p.tasks = append(p.tasks, &plainTask{Task: t, last: -1000})
	return api.OK
}

func (p *plainPart) drop(i int) api.Errno {
	switch {
	case i < 0 || i >= len(p.tasks):
		return api.ErrArg
	case p.tasks[i].leaving:
		return api.ErrState
	}
	p.tasks[i].leaving = true
	return api.OK
}

func (p *plainPart) change(i int, t api.Task) api.Errno {
	switch {
	case i < 0 || i >= len(p.tasks):
		return api.ErrArg
	case p.tasks[i].leaving:
		return api.ErrState
	}
	err := p.add(t)
	if err == api.OK {
		p.tasks[i].leaving = true
	}
	return err
}

func (s *plainSystem) do(c cmd) (int, api.Errno) {
	if c.Part < 0 || c.Part >= len(s.parts) {
		return 0, api.ErrNone
	}
	p := s.parts[c.Part]
	switch c.Kind {
	case 1:
		return 0, s.release(p, c.I, c.V)
	case 2:
		return 0, s.send(c.Part, c.I, c.V)
	case 3:
		return s.read(c.Part, c.I)
	case 4:
		return 0, p.add(c.T)
	case 5:
		return 0, p.drop(c.I)
	case 6:
		return 0, p.change(c.I, c.T)
	}
	return 0, api.ErrNone
}

// frame is the smallest number that all P divide.
func (s *plainSystem) frame() int {
	for n := 1; ; n++ {
		if !slices.ContainsFunc(s.parts, func(p *plainPart) bool { return n%p.face.P != 0 }) {
			return n
		}
	}
}

// deliver lets messages arrive, one by one.
func (s *plainSystem) deliver() {
	for _, x := range s.lines {
		for _, v := range x.under {
			if len(x.got) == x.Cap {
				x.got = x.got[1:]
			}
			x.got = append(x.got, v)
		}
		x.under = nil
	}
}

// owner returns the partition that has this tick: of those that still want some in their period, that whose period ends first.
func (s *plainSystem) owner() *plainPart {
	var best *plainPart
	end := 0
	for _, p := range s.parts {
		if s.now%p.face.P == 0 {
			p.wantMore = p.face.B
		}
		if next := (s.now/p.face.P + 1) * p.face.P; p.wantMore > 0 && (best == nil || next < end) {
			best, end = p, next
		}
	}
	if best != nil {
		best.wantMore--
	}
	return best
}

// before reports whether a job precedes another one.
func (p *plainPart) before(a, b *plainJob) bool {
	if a.due != b.due {
		return a.due < b.due
	}
	return slices.Index(p.tasks, a.of) < slices.Index(p.tasks, b.of)
}

// first returns the job that precedes all others of those that have begun, or that have not; nil if there is none.
func (p *plainPart) first(began bool) *plainJob {
	var best *plainJob
	for _, j := range p.jobs {
		if (j.had > 0) == began && (best == nil || p.before(j, best)) {
			best = j
		}
	}
	return best
}

// passes reports whether a job may begin: no held resource is used by its task, or by one that is due as soon, or sooner, behind its release.
func (p *plainPart) passes(j *plainJob) bool {
	for _, other := range p.jobs {
		for _, s := range other.of.Secs {
			if other.had <= s.At || other.had >= s.At+s.Len {
				continue
			}
			for _, x := range p.tasks {
				uses := func(y api.Sec) bool { return y.Res == s.Res }
				if x.D <= j.of.D && slices.ContainsFunc(x.Secs, uses) {
					return false
				}
			}
		}
	}
	return true
}

// choose returns the job that runs.
func (p *plainPart) choose() *plainJob {
	next, running := p.first(false), p.first(true)
	if next != nil && (running == nil || p.before(next, running)) && p.passes(next) {
		return next
	}
	return running
}

// tick lets a partition have a tick, provided or not, and returns the number of the task whose job ran.
func (s *plainSystem) tick(p *plainPart, given bool) int {
	ran := -1
	for _, j := range p.jobs {
		if j.due <= s.now {
			s.note(p, api.Missed, slices.Index(p.tasks, j.of))
		}
	}
	p.jobs = slices.DeleteFunc(p.jobs, func(j *plainJob) bool { return j.due <= s.now })
	if given && len(p.jobs) > 0 {
		j := p.choose()
		ran = slices.Index(p.tasks, j.of)
		if j.had++; j.had == min(j.want, j.of.C) {
			p.jobs = slices.DeleteFunc(p.jobs, func(x *plainJob) bool { return x == j })
			kind := api.Done
			if j.want > j.of.C {
				kind = api.Cut
			}
			s.note(p, kind, ran)
		}
	}
	for i := len(p.tasks) - 1; i >= 0 && len(p.jobs) == 0; i-- {
		if p.tasks[i].leaving {
			p.tasks = slices.Delete(p.tasks, i, i+1)
			s.note(p, api.Left, i)
		}
	}
	return ran
}

// plainPlay returns the views of a system that boots, and receives a script.
func plainPlay(c config, l script) []view {
	s := newPlain(c)
	frame := s.frame()
	v := make([]view, len(s.parts))
	for _, requests := range l {
		for _, x := range requests {
			if value, err := s.do(x); x.Part >= 0 && x.Part < len(v) {
				v[x.Part].Saws = append(v[x.Part].Saws, saw{At: s.now, Value: value, Err: err})
			}
		}
		if s.now%frame == 0 {
			s.deliver()
		}
		owner := s.owner()
		for i, p := range s.parts {
			v[i].Ran = append(v[i].Ran, s.tick(p, p == owner))
		}
		s.now++
	}
	for i, p := range s.parts {
		v[i].Log = p.log
	}
	return v
}
