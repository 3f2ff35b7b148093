package part_test

import (
	"math"
	"slices"
	"testing"

	"remontoir/api"
	"remontoir/job"
	"remontoir/part"
	"remontoir/police"
	"remontoir/srp"
	"remontoir/task"
)

type (
	tasks = []api.Task
	jobs  = []api.Job
	log   = []api.Entry
	state = part.State
)

// lastTick is the last tick that there is for a partition.
const lastTick = api.MaxNum - api.MaxTime

// ends returns the numbers at the ends of int, and at what is promised of numbers.
func ends() []int {
	return []int{math.MinInt, math.MinInt + 1, -api.MaxNum - 1, -api.MaxNum, -2, -1, 0, 1, 1<<32 + 1, lastTick - 1, lastTick, lastTick + 1, api.MaxNum, api.MaxNum + 1, math.MaxInt - 1, math.MaxInt}
}

// some returns valid tasks with different times, some of them with sections, as many as there may be.
func some() tasks {
	return tasks{
		{C: 2, D: 4, T: 6},
		{C: 1, D: 1, T: 1},
		{C: 5, D: 7, T: 9, Secs: []api.Sec{{Res: 0, At: 1, Len: 3}, {Res: 1, At: 2, Len: 1}}},
		{C: 3, D: 9, T: 10, Secs: []api.Sec{{Res: 1, At: 0, Len: 2}}},
		{C: 200, D: 200, T: 200, Secs: []api.Sec{{Res: 2, At: 197, Len: 3}}},
		{C: 4, D: 8, T: 8},
		{C: 2, D: 3, T: 200, Secs: []api.Sec{{Res: 3, At: 0, Len: 2}}},
		{C: 1, D: 9, T: 9},
	}
}

// wrongTasks returns tasks that are not valid.
func wrongTasks() tasks {
	return tasks{
		{}, {C: 3, D: 2, T: 4}, {C: 1, D: 3, T: 2}, {C: 1, D: 1, T: 201}, {C: 0, D: 1, T: 1}, {C: -1, D: 1, T: 1},
		{C: 3, D: 3, T: 3, Secs: []api.Sec{{Res: 4, At: 0, Len: 1}}}, {C: 3, D: 3, T: 3, Secs: []api.Sec{{Res: 0, At: 2, Len: 2}}},
		{C: math.MaxInt, D: math.MaxInt, T: math.MaxInt}, {C: math.MinInt, D: math.MinInt, T: math.MinInt},
	}
}

// wrongLists returns lists of tasks that are not valid: because of one of them, the last or the first one, or because there are too many.
func wrongLists() []tasks {
	var out []tasks
	for _, bad := range wrongTasks() {
		out = append(out, tasks{bad}, append(some()[:6:6], bad), append(tasks{bad}, some()[:7]...))
	}
	return append(out, append(some(), some()[0]), slices.Repeat(some(), 3))
}

// of returns a job of a task of some, with the Due that belongs to it; it has begun if it has had ticks.
func of(task, at, want, had int) api.Job {
	return api.Job{Task: task, At: at, Due: at + some()[task].D, Want: want, Had: had, Began: had > 0}
}

// wrongJobs returns jobs that are not valid jobs of some.
func wrongJobs() jobs {
	return jobs{
		{}, {Task: -1, Due: 4, Want: 1}, {Task: 8, Due: 4, Want: 1}, {Task: 0, Due: 5, Want: 1}, {Task: 0, Due: 3, Want: 1}, {Task: 0, At: -1, Due: 3, Want: 1}, {Task: 0, At: lastTick + 1, Due: lastTick + 5, Want: 1},
		{Task: 0, Due: 4}, {Task: 0, Due: 4, Want: 201}, {Task: 0, Due: 4, Want: 9, Had: 2, Began: true}, {Task: 0, Due: 4, Want: 9, Had: -1}, {Task: 0, Due: 4, Want: 9, Had: 1},
		{Task: math.MaxInt, At: math.MaxInt, Due: math.MaxInt, Want: math.MaxInt, Had: math.MaxInt}, {Task: math.MinInt, At: math.MinInt, Due: math.MinInt, Want: math.MinInt, Had: math.MinInt},
	}
}

// many returns n different jobs of some, which are valid but for their number.
func many(n int) jobs {
	var out jobs
	for i := range n {
		out = append(out, of(i%8, 500-i/8, 2, 0))
	}
	return out
}

// filled returns a log of n entries, each of which is another one.
func filled(n int) log {
	out := make(log, n)
	for i := range out {
		out[i] = api.Entry{At: i, Kind: i % 9, Task: i % 11}
	}
	return out
}

// fresh returns a state with tasks, none of which is leaving or has released anything.
func fresh(l tasks) state {
	return state{Tasks: l, Leaves: make([]bool, len(l)), Lasts: slices.Repeat([]int{-1}, len(l))}
}

// with returns a state with tasks of some, jobs, and tasks that are leaving.
func with(list jobs, leaves ...int) state {
	s := fresh(some())
	s.Jobs = list
	for _, i := range leaves {
		s.Leaves[i] = true
	}
	return s
}

// same reports whether two states are equal.
func same(a, b state) bool {
	return slices.EqualFunc(a.Tasks, b.Tasks, task.Same) && slices.Equal(a.Leaves, b.Leaves) && slices.Equal(a.Lasts, b.Lasts) && slices.Equal(a.Jobs, b.Jobs) && slices.Equal(a.Log, b.Log)
}

// logged returns a log with more entries, as far as there is room.
func logged(l log, more ...api.Entry) log {
	all := slices.Concat(l, more)
	return all[:max(len(l), min(len(all), api.MaxLog))]
}

// modelRight is the document's word.
func modelRight(s state) bool {
	n := len(s.Tasks)
	return task.All(s.Tasks) && len(s.Leaves) == n && len(s.Lasts) == n && police.Right(s.Tasks, s.Lasts) && job.All(s.Tasks, s.Jobs) && len(s.Log) <= 2000
}

// modelRelease is the document's word.
func modelRelease(s state, i, want, now int) (state, api.Errno) {
	if !modelRight(s) || i < 0 || i >= len(s.Tasks) || want < 1 || want > 200 || now < 0 || now > lastTick {
		return s, api.ErrArg
	}
	if s.Leaves[i] {
		return s, api.ErrState
	}
	if s.Lasts[i] >= 0 && now-s.Lasts[i] < s.Tasks[i].T {
		s.Log = logged(s.Log, api.Entry{At: now, Kind: api.Early, Task: i})
		return s, api.ErrEarly
	}
	if len(s.Jobs) >= 32 {
		s.Log = logged(s.Log, api.Entry{At: now, Kind: api.Full, Task: i})
		return s, api.ErrFull
	}
	s.Jobs = slices.Concat(s.Jobs, jobs{{Task: i, At: now, Due: now + s.Tasks[i].D, Want: want}})
	s.Lasts = slices.Concat(s.Lasts[:i], []int{now}, s.Lasts[i+1:])
	s.Log = logged(s.Log, api.Entry{At: now, Kind: api.Released, Task: i})
	return s, api.OK
}

// modelTick is the document's word; what happens is gathered first, and logged at the end.
func modelTick(s state, given bool, now int) (state, int, api.Errno) {
	if !modelRight(s) || now < 0 || now > lastTick {
		return s, -1, api.ErrArg
	}
	var happened log
	var left jobs
	for _, j := range s.Jobs {
		if now >= j.Due {
			happened = append(happened, api.Entry{At: now, Kind: api.Missed, Task: j.Task})
			continue
		}
		left = append(left, j)
	}
	who := -1
	if i := srp.Choose(s.Tasks, left); given && i >= 0 {
		j := &left[i]
		who, j.Began, j.Had = j.Task, true, j.Had+1
		switch c := s.Tasks[who].C; {
		case j.Had == c && j.Want > c:
			happened = append(happened, api.Entry{At: now, Kind: api.Cut, Task: who})
			left = slices.Concat(left[:i], left[i+1:])
		case j.Had == j.Want:
			happened = append(happened, api.Entry{At: now, Kind: api.Done, Task: who})
			left = slices.Concat(left[:i], left[i+1:])
		}
	}
	s.Jobs = left
	if len(left) == 0 {
		var gone log
		s, gone = modelLeft(s, now)
		happened = append(happened, gone...)
	}
	s.Log = logged(s.Log, happened...)
	return s, who, api.OK
}

// modelLeft returns the state with those tasks alone that are not leaving, and the entries for the others.
func modelLeft(s state, now int) (state, log) {
	out := state{Jobs: s.Jobs, Log: s.Log}
	var gone log
	for i, leaving := range s.Leaves {
		if leaving {
			gone = slices.Insert(gone, 0, api.Entry{At: now, Kind: api.Left, Task: i})
			continue
		}
		out.Tasks = append(out.Tasks, s.Tasks[i])
		out.Leaves = append(out.Leaves, false)
		out.Lasts = append(out.Lasts, s.Lasts[i])
	}
	return out, gone
}

// modelAdd is the document's word.
func modelAdd(s state, t api.Task) (state, api.Errno) {
	if !modelRight(s) || !task.Right(t) {
		return s, api.ErrArg
	}
	if len(s.Tasks) == 8 {
		return s, api.ErrFull
	}
	s.Tasks, s.Leaves, s.Lasts = slices.Concat(s.Tasks, tasks{t}), slices.Concat(s.Leaves, []bool{false}), slices.Concat(s.Lasts, []int{-1})
	return s, api.OK
}

// modelLeave is the document's word.
func modelLeave(s state, i int) (state, api.Errno) {
	if !modelRight(s) || i < 0 || i >= len(s.Tasks) {
		return s, api.ErrArg
	}
	if s.Leaves[i] {
		return s, api.ErrState
	}
	s.Leaves = slices.Concat(s.Leaves[:i], []bool{true}, s.Leaves[i+1:])
	return s, api.OK
}

// A call is one of those that return a state, with its arguments: Release, Tick, Add or Leave.
type call struct {
	name         string
	i, want, now int
	given        bool
	t            api.Task
}

func release(i, want, now int) call { return call{name: "Release", i: i, want: want, now: now} }
func tick(given bool, now int) call { return call{name: "Tick", given: given, now: now} }
func add(t api.Task) call           { return call{name: "Add", t: t} }
func leave(i int) call              { return call{name: "Leave", i: i} }

// An answer is all that such a call returns; who is 0 for those that don't return it.
type answer struct {
	s   state
	who int
	err api.Errno
}

func (a answer) equal(b answer) bool {
	return same(a.s, b.s) && a.who == b.who && a.err == b.err
}

// do calls the program.
func (c call) do(s state) answer {
	var a answer
	switch c.name {
	case "Release":
		a.s, a.err = part.Release(s, c.i, c.want, c.now)
	case "Tick":
		a.s, a.who, a.err = part.Tick(s, c.given, c.now)
	case "Add":
		a.s, a.err = part.Add(s, c.t)
	default:
		a.s, a.err = part.Leave(s, c.i)
	}
	return a
}

// model asks the model.
func (c call) model(s state) answer {
	var a answer
	switch c.name {
	case "Release":
		a.s, a.err = modelRelease(s, c.i, c.want, c.now)
	case "Tick":
		a.s, a.who, a.err = modelTick(s, c.given, c.now)
	case "Add":
		a.s, a.err = modelAdd(s, c.t)
	default:
		a.s, a.err = modelLeave(s, c.i)
	}
	return a
}

// check checks one call for a state, valid or not, and returns what it returns.
func check(t *testing.T, s state, c call) answer {
	t.Helper()
	got, want := c.do(s), c.model(s)
	if !got.equal(want) {
		t.Fatalf("%+v of %+v:\n%+v, want\n%+v", c, s, got, want)
	}
	if right := modelRight(s); part.Right(s) != right {
		t.Fatalf("Right(%+v): %v", s, !right)
	}
	return got
}

// expect checks one call, and that it returns just this.
func expect(t *testing.T, s state, c call, err api.Errno, who int, want state) {
	t.Helper()
	if got := check(t, s, c); !got.equal(answer{want, who, err}) {
		t.Errorf("%+v of %+v:\n%+v, want\n%+v, %d, %d", c, s, got, want, who, err)
	}
}

// kept checks that a call returns the error, and the state as it is, but for these entries.
func kept(t *testing.T, s state, c call, err api.Errno, more ...api.Entry) {
	t.Helper()
	who := 0
	if c.name == "Tick" {
		who = -1
	}
	want := s
	want.Log = slices.Concat(s.Log, more)
	expect(t, s, c, err, who, want)
}

// wrong checks that a state is not valid, and that no call does anything with it, whatever else may be wrong.
func wrong(t *testing.T, s state) {
	t.Helper()
	if part.Right(s) {
		t.Errorf("Right(%+v)", s)
	}
	for _, c := range []call{
		release(0, 1, 0), release(0, 1, 300), release(len(s.Tasks)-1, 200, lastTick), release(-1, 0, -1), release(len(s.Tasks), 1, 0),
		tick(true, 0), tick(false, 0), tick(true, 300), tick(false, lastTick), tick(true, -1), tick(true, lastTick+1),
		add(some()[0]), add(some()[2]), add(api.Task{}), leave(0), leave(len(s.Tasks) - 1), leave(-1), leave(len(s.Tasks)),
	} {
		kept(t, s, c, api.ErrArg)
	}
}

// P17.1: states without tasks, jobs or entries, and states with as much as there may be.
func TestRightStates(t *testing.T) {
	began := of(3, 0, 1, 0)
	began.Began = true
	full := with(many(api.MaxJobs), 0, 1, 2, 3, 4, 5, 6, 7)
	full.Lasts, full.Log = slices.Repeat([]int{api.MaxNum}, api.MaxTasks), filled(api.MaxLog)
	for n, s := range []state{
		{}, {Tasks: tasks{}, Leaves: []bool{}, Lasts: []int{}, Jobs: jobs{}, Log: log{}}, {Log: filled(3)}, {Log: filled(api.MaxLog)},
		fresh(some()), fresh(some()[:1]), with(nil, 0, 7), with(many(1)), with(many(api.MaxJobs)), full,
		with(jobs{of(4, 0, 200, 199), began, of(0, lastTick, 1, 0), of(2, 9, 200, 4)}),
		{Log: log{{At: math.MinInt, Kind: math.MaxInt, Task: -1}, {}, {At: 5, Kind: api.Refused, Task: 99}, {At: 3, Kind: 77}}},
	} {
		if !part.Right(s) {
			t.Errorf("%d: Right(%+v): false", n, s)
		}
	}
}

// P17.1: one flag, or one last release, too few or too many, and other numbers of them.
func TestRightNumbers(t *testing.T) {
	for n := range api.MaxTasks + 1 {
		for flags := range api.MaxTasks + 3 {
			for lasts := range api.MaxTasks + 3 {
				s := state{Tasks: some()[:n], Leaves: make([]bool, flags), Lasts: slices.Repeat([]int{-1}, lasts)}
				if flags == n && lasts == n {
					if !part.Right(s) {
						t.Errorf("Right of %d tasks: false", n)
					}
					continue
				}
				if part.Right(s) {
					t.Errorf("Right of %d tasks, %d flags, %d last releases", n, flags, lasts)
				}
				if max(flags, lasts) <= n+1 && min(flags, lasts) >= n-1 {
					wrong(t, s)
				}
			}
		}
	}
	wrong(t, state{Leaves: []bool{false}})
	wrong(t, state{Lasts: []int{-1}})
	wrong(t, state{Tasks: some()[:1]})
}

// P17.1: tasks that are not valid, with as many flags and last releases.
func TestRightTasks(t *testing.T) {
	for _, l := range wrongLists() {
		wrong(t, fresh(l))
		s := fresh(l)
		s.Jobs = jobs{{Task: 1, Due: l[len(l)-1].D, Want: 1}}
		wrong(t, s)
	}
}

// P17.1: each last release is from -1 to MaxNum, whichever it is.
func TestRightLasts(t *testing.T) {
	for i := range some() {
		for _, last := range ends() {
			s := with(jobs{of(1, 5, 1, 0)})
			s.Lasts[i] = last
			if last >= -1 && last <= api.MaxNum {
				if !part.Right(s) {
					t.Errorf("Right with %v: false", s.Lasts)
				}
				continue
			}
			wrong(t, s)
		}
	}
}

// P17.1: jobs that are not valid, wherever they are, of tasks that there are not, twice the same, or too many.
func TestRightJobs(t *testing.T) {
	for _, n := range []int{1, 2, 5, api.MaxJobs} {
		for i := range n {
			if n == api.MaxJobs && i > 0 && i < n-1 {
				continue
			}
			for _, bad := range wrongJobs() {
				s := with(many(n), 2)
				s.Jobs[i] = bad
				wrong(t, s)
			}
			if i > 0 {
				s := with(many(n))
				s.Jobs[i] = s.Jobs[0]
				s.Jobs[i].Want = 1
				wrong(t, s)
			}
		}
	}
	wrong(t, with(many(api.MaxJobs+1)))
	wrong(t, with(many(3*api.MaxJobs)))
	wrong(t, state{Jobs: jobs{{Due: 4, Want: 1}}})
	s := fresh(some()[:2])
	s.Jobs = jobs{of(1, 0, 1, 0), of(2, 0, 1, 0)}
	wrong(t, s)
}

// P17.1: a log of MaxLog entries, one less, and one more.
func TestRightLog(t *testing.T) {
	for _, n := range []int{0, 1, api.MaxLog - 1, api.MaxLog} {
		for _, s := range []state{{}, with(many(4))} {
			s.Log = filled(n)
			if !part.Right(s) {
				t.Errorf("Right with %d entries: false", n)
			}
		}
	}
	for _, n := range []int{api.MaxLog + 1, api.MaxLog + 2, 2 * api.MaxLog} {
		for _, s := range []state{{}, with(many(4))} {
			s.Log = filled(n)
			wrong(t, s)
		}
	}
}

// P17.1: New of no tasks, of any number of them, and of tasks that are not valid.
func TestNew(t *testing.T) {
	for n := range api.MaxTasks + 1 {
		s, err := part.New(some()[:n])
		if err != api.OK || !same(s, fresh(some()[:n])) || !part.Right(s) {
			t.Errorf("New of %d tasks: %+v, %d", n, s, err)
		}
	}
	for _, l := range []tasks{nil, {}} {
		if s, err := part.New(l); err != api.OK || !same(s, state{}) || !part.Right(s) {
			t.Errorf("New of no tasks: %+v, %d", s, err)
		}
	}
	for _, l := range append(wrongLists(), slices.Repeat(tasks{{C: 1, D: 1, T: 1}}, api.MaxTasks+1)) {
		s, err := part.New(l)
		if err != api.ErrArg || s.Tasks != nil || s.Leaves != nil || s.Lasts != nil || s.Jobs != nil || s.Log != nil {
			t.Errorf("New(%v): %+v, %d", l, s, err)
		}
	}
}

// P17.2: numbers of tasks, ticks that are wanted, and times, at their limits and outside.
func TestReleaseArguments(t *testing.T) {
	for n := range api.MaxTasks + 1 {
		s := fresh(some()[:n])
		for _, i := range append(ends(), 2, n-1, n, n+1, api.MaxTasks, -api.MaxTasks) {
			for _, want := range append(ends(), 2, api.MaxTime-1, api.MaxTime, api.MaxTime+1) {
				for _, now := range ends() {
					if 0 <= i && i < n && 1 <= want && want <= api.MaxTime && 0 <= now && now <= lastTick {
						released(t, s, i, want, now)
						continue
					}
					kept(t, s, release(i, want, now), api.ErrArg)
				}
			}
		}
	}
}

// released checks that a job is released, and all that changes.
func released(t *testing.T, s state, i, want, now int) state {
	t.Helper()
	after := s
	after.Jobs = append(slices.Clip(s.Jobs), api.Job{Task: i, At: now, Due: now + s.Tasks[i].D, Want: want})
	after.Lasts = slices.Clone(s.Lasts)
	after.Lasts[i] = now
	after.Log = append(slices.Clip(s.Log), entry(now, api.Released, i))
	expect(t, s, release(i, want, now), api.OK, 0, after)
	return after
}

func entry(at, kind, i int) api.Entry { return api.Entry{At: at, Kind: kind, Task: i} }

// P17.2: several releases: a new job is the last one, whatever is due first, and each has what it wants.
func TestReleases(t *testing.T) {
	s := with(jobs{of(4, 7, 3, 0), of(2, 3, 9, 2)})
	s.Log = filled(4)
	s = released(t, s, 0, 1, 9)
	s = released(t, s, 1, api.MaxTime, 9)
	s = released(t, s, 6, 2, 10)
	s = released(t, s, 1, 1, 10)
	s = released(t, s, 0, 5, 15)
	if want := (jobs{of(4, 7, 3, 0), of(2, 3, 9, 2), of(0, 9, 1, 0), of(1, 9, 200, 0), of(6, 10, 2, 0), of(1, 10, 1, 0), of(0, 15, 5, 0)}); !slices.Equal(s.Jobs, want) {
		t.Errorf("%+v, want %+v", s.Jobs, want)
	}
	if want := []int{15, 10, -1, -1, -1, -1, 10, -1}; !slices.Equal(s.Lasts, want) {
		t.Errorf("%v, want %v", s.Lasts, want)
	}
}

// P17.2: of a task that is leaving nothing is released, nor logged, also where it is too early, or there are MaxJobs jobs, or the log is full; wrong arguments come first.
func TestReleaseOfOneThatIsLeaving(t *testing.T) {
	for i := range some() {
		for _, last := range []int{-1, 0, 299, 300, api.MaxNum} {
			for _, n := range []int{0, 1, api.MaxJobs} {
				for _, entries := range []int{0, 3, api.MaxLog} {
					s := with(many(n), i)
					s.Lasts[i], s.Log = last, filled(entries)
					kept(t, s, release(i, 1, 300), api.ErrState)
					kept(t, s, release(i, 0, 300), api.ErrArg)
					kept(t, s, release(i, 201, 300), api.ErrArg)
					kept(t, s, release(i, 1, -1), api.ErrArg)
					kept(t, s, release(i, 1, lastTick+1), api.ErrArg)
					if n < api.MaxJobs && entries < api.MaxLog {
						released(t, s, (i+1)%8, 1, 300)
					}
				}
			}
		}
	}
}

// P17.2: a release that is too early, just not so, and long before; Early is logged, also where there are MaxJobs jobs.
func TestReleaseTooEarly(t *testing.T) {
	for i, x := range some() {
		for _, n := range []int{0, 1, api.MaxJobs - 1, api.MaxJobs} {
			for _, last := range []int{0, 250, lastTick - 300, lastTick - x.T, lastTick, api.MaxNum} {
				s := with(many(n), (i+3)%8)
				s.Lasts[i], s.Log = last, filled(n)
				for _, now := range []int{0, last - 1, last, last + 1, last + x.T - 1} {
					if now >= 0 && now < last+x.T && now <= lastTick {
						kept(t, s, release(i, 2, now), api.ErrEarly, entry(now, api.Early, i))
					}
				}
				for _, now := range []int{last + x.T, last + x.T + 1, lastTick} {
					if now >= last+x.T && now <= lastTick && n < api.MaxJobs {
						released(t, s, i, 2, now)
					}
				}
				kept(t, s, release(i, 0, 0), api.ErrArg)
			}
		}
	}
}

// P17.2: with MaxJobs - 1 jobs there is room for one, with MaxJobs there is none: Full is logged, and the release is not recorded.
func TestReleaseWithoutRoom(t *testing.T) {
	for i := range some() {
		for _, last := range []int{-1, 40} {
			s := with(many(api.MaxJobs - 1))
			s.Lasts[i] = last
			s = released(t, s, i, 3, 900)
			k := (i + 1) % 8
			kept(t, s, release(k, 3, 900), api.ErrFull, entry(900, api.Full, k))
			kept(t, s, release(i, 3, 900), api.ErrEarly, entry(900, api.Early, i))
			kept(t, s, release(i, 3, 1100), api.ErrFull, entry(1100, api.Full, i))
			s.Leaves[k] = true
			kept(t, s, release(k, 3, 900), api.ErrState)
			kept(t, s, release(8, 3, 900), api.ErrArg)
		}
	}
	for n := range api.MaxJobs {
		released(t, with(many(n)), n%8, 1, 900)
	}
}

// P17.2: a release with a full log, and with one that has room for one entry: all else is the same.
func TestReleaseWithAFullLog(t *testing.T) {
	for _, n := range []int{api.MaxLog - 1, api.MaxLog} {
		s := with(many(3))
		s.Log = filled(n)
		s.Lasts[0] = 895
		for _, c := range []call{release(1, 1, 900), release(0, 1, 900), release(0, 1, 901)} {
			got := check(t, s, c)
			if len(got.s.Log) != api.MaxLog || !slices.Equal(got.s.Log[:n], filled(n)) {
				t.Errorf("%+v with %d entries: %d", c, n, len(got.s.Log))
			}
			if c.i == 0 && c.now == 900 {
				if got.err != api.ErrEarly || len(got.s.Jobs) != 3 || got.s.Lasts[0] != 895 {
					t.Errorf("%+v with %d entries: %+v", c, n, got)
				}
			} else if got.err != api.OK || len(got.s.Jobs) != 4 || got.s.Lasts[c.i] != c.now {
				t.Errorf("%+v with %d entries: %+v", c, n, got)
			}
		}
		s.Jobs = many(api.MaxJobs)
		if got := check(t, s, release(1, 1, 900)); got.err != api.ErrFull || len(got.s.Log) != api.MaxLog || len(got.s.Jobs) != api.MaxJobs || got.s.Lasts[1] != -1 {
			t.Errorf("without room, and with %d entries: %+v", n, got)
		}
	}
}

// P17.2: a time is from 0 to MaxNum - MaxTime; outside nothing happens, whatever is due, and whoever is leaving.
func TestTickTimes(t *testing.T) {
	for _, s := range []state{{}, with(nil), with(nil, 0, 3), with(many(3), 1), with(jobs{of(0, 0, 1, 0), of(0, lastTick, 1, 0)}, 5)} {
		for _, now := range ends() {
			for _, given := range []bool{false, true} {
				if now < 0 || now > lastTick {
					kept(t, s, tick(given, now), api.ErrArg)
				} else if got := check(t, s, tick(given, now)); got.err != api.OK {
					t.Errorf("Tick at %d of %+v: %d", now, s, got.err)
				}
			}
		}
	}
}

// begun returns the same job with a tick more.
func begun(j api.Job) api.Job {
	j.Began, j.Had = true, j.Had+1
	return j
}

// P17.2: what a tick does with jobs, where no task is leaving.
func TestTickOfJobs(t *testing.T) {
	a, b, c, d := of(0, 10, 1, 0), of(2, 7, 9, 3), of(1, 13, 1, 0), of(5, 6, 200, 0) // the first four are due at 14
	for _, x := range []struct {
		name  string
		list  jobs
		given bool
		now   int
		after jobs
		who   int
		more  log
	}{
		{"no jobs, not provided", nil, false, 3, nil, -1, nil},
		{"no jobs, provided", jobs{}, true, 3, nil, -1, nil},
		{"not provided", jobs{a, b, of(0, 9, 2, 1)}, false, 9, jobs{a, b, of(0, 9, 2, 1)}, -1, nil},
		{"a tick ahead of the release", jobs{of(4, 12, 5, 0)}, true, 0, jobs{begun(of(4, 12, 5, 0))}, 4, nil},

		{"due one tick later", jobs{a}, false, 13, jobs{a}, -1, nil},
		{"due now", jobs{a}, false, 14, nil, -1, log{entry(14, api.Missed, 0)}},
		{"due one tick ago", jobs{a}, false, 15, nil, -1, log{entry(15, api.Missed, 0)}},
		{"due long ago", jobs{a}, false, lastTick, nil, -1, log{entry(lastTick, api.Missed, 0)}},
		{"due one tick later, and it gets the tick", jobs{of(0, 10, 2, 0)}, true, 13, jobs{begun(of(0, 10, 2, 0))}, 0, nil},
		{"due one tick later, and finished", jobs{a}, true, 13, nil, 0, log{entry(13, api.Done, 0)}},
		{"due now, and it does not get the tick", jobs{a}, true, 14, nil, -1, log{entry(14, api.Missed, 0)}},
		{"due one tick ago, and it does not get the tick", jobs{of(0, 10, 2, 1)}, true, 15, nil, -1, log{entry(15, api.Missed, 0)}},
		{"due at the last tick", jobs{of(0, lastTick-4, 1, 0)}, true, lastTick, nil, -1, log{entry(lastTick, api.Missed, 0)}},
		{"due behind the last tick", jobs{of(0, lastTick-3, 2, 0)}, true, lastTick, jobs{begun(of(0, lastTick-3, 2, 0))}, 0, nil},

		{"several missed", jobs{a, b, c, d}, false, 14, nil, -1, log{entry(14, api.Missed, 0), entry(14, api.Missed, 2), entry(14, api.Missed, 1), entry(14, api.Missed, 5)}},
		{"several missed, the other way round", jobs{d, c, b, a}, true, 14, nil, -1, log{entry(14, api.Missed, 5), entry(14, api.Missed, 1), entry(14, api.Missed, 2), entry(14, api.Missed, 0)}},
		{"missed, and due at different times", jobs{of(3, 9, 1, 0), of(0, 1, 2, 1), of(5, 4, 4, 0), of(0, 7, 1, 0)}, true, 30, nil, -1, log{entry(30, api.Missed, 3), entry(30, api.Missed, 0), entry(30, api.Missed, 5), entry(30, api.Missed, 0)}},
		{"missed, and others between them", jobs{of(4, 1, 7, 0), a, of(3, 11, 1, 0), c, of(7, 12, 1, 0)}, false, 14, jobs{of(4, 1, 7, 0), of(3, 11, 1, 0), of(7, 12, 1, 0)}, -1, log{entry(14, api.Missed, 0), entry(14, api.Missed, 1)}},
		{"one that runs behind the missed ones", jobs{of(4, 1, 7, 0), a, of(3, 11, 2, 0), c, of(7, 12, 1, 0)}, true, 14, jobs{of(4, 1, 7, 0), begun(of(3, 11, 2, 0)), of(7, 12, 1, 0)}, 3, log{entry(14, api.Missed, 0), entry(14, api.Missed, 1)}},
		{"one that is finished behind the missed ones", jobs{of(3, 11, 1, 0), a, c, of(7, 12, 1, 0)}, true, 14, jobs{of(7, 12, 1, 0)}, 3, log{entry(14, api.Missed, 0), entry(14, api.Missed, 1), entry(14, api.Done, 3)}},
		{"one that is cut off behind a missed one", jobs{of(7, 12, 2, 0), a}, true, 14, nil, 7, log{entry(14, api.Missed, 0), entry(14, api.Cut, 7)}},
		{"a missed one holds what the one that runs needs", jobs{of(2, 7, 9, 3), of(3, 9, 9, 0)}, true, 14, jobs{begun(of(3, 9, 9, 0))}, 3, log{entry(14, api.Missed, 2)}},

		{"wants less than C, one tick too few", jobs{of(2, 0, 3, 1)}, true, 4, jobs{begun(of(2, 0, 3, 1))}, 2, nil},
		{"wants less than C", jobs{of(2, 0, 3, 2)}, true, 4, nil, 2, log{entry(4, api.Done, 2)}},
		{"wants one less than C", jobs{of(2, 0, 4, 3)}, true, 4, nil, 2, log{entry(4, api.Done, 2)}},
		{"wants C, one tick too few", jobs{of(2, 0, 5, 3)}, true, 4, jobs{begun(of(2, 0, 5, 3))}, 2, nil},
		{"wants C", jobs{of(2, 0, 5, 4)}, true, 4, nil, 2, log{entry(4, api.Done, 2)}},
		{"wants one more than C, one tick too few", jobs{of(2, 0, 6, 3)}, true, 4, jobs{begun(of(2, 0, 6, 3))}, 2, nil},
		{"wants one more than C", jobs{of(2, 0, 6, 4)}, true, 4, nil, 2, log{entry(4, api.Cut, 2)}},
		{"wants far more than C", jobs{of(2, 0, 200, 4)}, true, 4, nil, 2, log{entry(4, api.Cut, 2)}},
		{"wants as much as there may be, which is C", jobs{of(4, 0, 200, 199)}, true, 4, nil, 4, log{entry(4, api.Done, 4)}},
		{"wants a single tick, which is C", jobs{of(1, 4, 1, 0)}, true, 4, nil, 1, log{entry(4, api.Done, 1)}},
		{"wants two ticks, and C is one", jobs{of(7, 4, 2, 0)}, true, 4, nil, 7, log{entry(4, api.Cut, 7)}},
		{"the others stay, in order", jobs{of(4, 0, 9, 0), of(7, 0, 1, 0), of(0, 3, 2, 1), of(5, 0, 1, 0)}, true, 4, jobs{of(4, 0, 9, 0), of(7, 0, 1, 0), of(5, 0, 1, 0)}, 0, log{entry(4, api.Done, 0)}},
		{"a resource that is needed is held", jobs{of(3, 0, 9, 1), of(2, 1, 9, 0)}, true, 4, jobs{begun(of(3, 0, 9, 1)), of(2, 1, 9, 0)}, 3, nil},
	} {
		for _, before := range []log{nil, filled(3)} {
			s := with(x.list)
			s.Log = before
			want := with(x.after)
			want.Log = slices.Concat(before, x.more)
			t.Run(x.name, func(t *testing.T) { expect(t, s, tick(x.given, x.now), api.OK, x.who, want) })
		}
	}
}

// remaining returns the state that is left of with, without some of its tasks.
func remaining(gone ...int) state {
	var l tasks
	for i, t := range some() {
		if !slices.Contains(gone, i) {
			l = append(l, t)
		}
	}
	return fresh(l)
}

// P17.2: tasks that are leaving stay while there are jobs, of theirs or of others, and are removed in the tick in which there are none left.
func TestTickRemoves(t *testing.T) {
	for _, x := range []struct {
		name   string
		list   jobs
		leaves []int
		given  bool
		now    int
		gone   []int
		who    int
		after  jobs
		more   log
	}{
		{"no jobs, not provided", nil, []int{2}, false, 5, []int{2}, -1, nil, log{entry(5, api.Left, 2)}},
		{"no jobs, provided", nil, []int{2}, true, 5, []int{2}, -1, nil, log{entry(5, api.Left, 2)}},
		{"no jobs, the first one", nil, []int{0}, true, 0, []int{0}, -1, nil, log{entry(0, api.Left, 0)}},
		{"no jobs, the last one", nil, []int{7}, true, lastTick, []int{7}, -1, nil, log{entry(lastTick, api.Left, 7)}},
		{"several", nil, []int{1, 4, 6}, false, 5, []int{1, 4, 6}, -1, nil, log{entry(5, api.Left, 6), entry(5, api.Left, 4), entry(5, api.Left, 1)}},
		{"several beside each other, the first one too", nil, []int{0, 1, 2}, false, 5, []int{0, 1, 2}, -1, nil, log{entry(5, api.Left, 2), entry(5, api.Left, 1), entry(5, api.Left, 0)}},
		{"several beside each other, the last one too", nil, []int{6, 7}, false, 5, []int{6, 7}, -1, nil, log{entry(5, api.Left, 7), entry(5, api.Left, 6)}},
		{"all", nil, []int{0, 1, 2, 3, 4, 5, 6, 7}, false, 5, []int{0, 1, 2, 3, 4, 5, 6, 7}, -1, nil, log{entry(5, api.Left, 7), entry(5, api.Left, 6), entry(5, api.Left, 5), entry(5, api.Left, 4), entry(5, api.Left, 3), entry(5, api.Left, 2), entry(5, api.Left, 1), entry(5, api.Left, 0)}},

		{"a job of its own, not provided", jobs{of(2, 5, 1, 0)}, []int{2}, false, 5, nil, -1, jobs{of(2, 5, 1, 0)}, nil},
		{"a job of its own, not finished", jobs{of(2, 5, 2, 0)}, []int{2}, true, 5, nil, 2, jobs{begun(of(2, 5, 2, 0))}, nil},
		{"a job of another one, not provided", jobs{of(5, 5, 1, 0)}, []int{2}, false, 5, nil, -1, jobs{of(5, 5, 1, 0)}, nil},
		{"a job of another one, not finished", jobs{of(5, 5, 2, 0)}, []int{2}, true, 5, nil, 5, jobs{begun(of(5, 5, 2, 0))}, nil},
		{"one of two jobs finished", jobs{of(2, 5, 1, 0), of(5, 5, 1, 0)}, []int{2}, true, 5, nil, 2, jobs{of(5, 5, 1, 0)}, log{entry(5, api.Done, 2)}},
		{"one of two jobs missed, not provided", jobs{of(2, 5, 1, 0), of(5, 5, 1, 0)}, []int{2}, false, 12, nil, -1, jobs{of(5, 5, 1, 0)}, log{entry(12, api.Missed, 2)}},

		{"the last job finished, of its own", jobs{of(2, 5, 1, 0)}, []int{2}, true, 5, []int{2}, 2, nil, log{entry(5, api.Done, 2), entry(5, api.Left, 2)}},
		{"the last job cut off, of its own", jobs{of(2, 5, 9, 4)}, []int{2}, true, 9, []int{2}, 2, nil, log{entry(9, api.Cut, 2), entry(9, api.Left, 2)}},
		{"the last job finished, of a later one", jobs{of(5, 5, 1, 0)}, []int{0, 2}, true, 5, []int{0, 2}, 5, nil, log{entry(5, api.Done, 5), entry(5, api.Left, 2), entry(5, api.Left, 0)}},
		{"the last job cut off, of a later one", jobs{of(7, 5, 9, 0)}, []int{0, 2}, true, 5, []int{0, 2}, 7, nil, log{entry(5, api.Cut, 7), entry(5, api.Left, 2), entry(5, api.Left, 0)}},
		{"the last job finished, of an earlier one", jobs{of(1, 5, 1, 0)}, []int{2, 7}, true, 5, []int{2, 7}, 1, nil, log{entry(5, api.Done, 1), entry(5, api.Left, 7), entry(5, api.Left, 2)}},
		{"the last job missed, not provided", jobs{of(2, 5, 1, 0)}, []int{2}, false, 12, []int{2}, -1, nil, log{entry(12, api.Missed, 2), entry(12, api.Left, 2)}},
		{"the last job missed, provided", jobs{of(2, 5, 1, 0)}, []int{2}, true, 12, []int{2}, -1, nil, log{entry(12, api.Missed, 2), entry(12, api.Left, 2)}},
		{"the last jobs missed, of others", jobs{of(6, 5, 1, 0), of(3, 2, 1, 0)}, []int{4, 5}, true, 12, []int{4, 5}, -1, nil, log{entry(12, api.Missed, 6), entry(12, api.Missed, 3), entry(12, api.Left, 5), entry(12, api.Left, 4)}},
		{"one missed, the last one finished", jobs{of(6, 5, 1, 0), of(3, 5, 1, 0)}, []int{3, 6}, true, 12, []int{3, 6}, 3, nil, log{entry(12, api.Missed, 6), entry(12, api.Done, 3), entry(12, api.Left, 6), entry(12, api.Left, 3)}},
	} {
		t.Run(x.name, func(t *testing.T) {
			s, want := with(x.list, x.leaves...), remaining(x.gone...)
			if len(x.gone) == 0 {
				want = with(x.after, x.leaves...)
			}
			s.Log, want.Log = filled(2), slices.Concat(filled(2), x.more)
			expect(t, s, tick(x.given, x.now), api.OK, x.who, want)
		})
	}
}

// P17.2: the numbers behind a removed task decrease by one, with their last releases; what is released then has the new number.
func TestNumbersAfterARemoval(t *testing.T) {
	s := with(nil, 1, 3)
	s.Lasts = []int{10, 11, 12, 13, 14, 15, 16, -1}
	got := check(t, s, tick(true, 20))
	if l := []int{10, 12, 14, 15, 16, -1}; !slices.Equal(got.s.Lasts, l) || !same(state{Tasks: got.s.Tasks, Leaves: got.s.Leaves}, state{Tasks: remaining(1, 3).Tasks, Leaves: make([]bool, 6)}) {
		t.Fatalf("after the removal: %+v", got.s)
	}
	s = got.s
	kept(t, s, release(6, 1, 20), api.ErrArg)
	kept(t, s, release(2, 1, 20), api.ErrEarly, entry(20, api.Early, 2))
	s = released(t, s, 5, 2, 20)
	s = released(t, s, 1, 9, 21)
	if j := s.Jobs[1]; j.Task != 1 || j.Due != 21+some()[2].D {
		t.Errorf("released after the removal: %+v", j)
	}
	got = check(t, s, tick(true, 22))
	if got.who != 1 {
		t.Errorf("after the removal %d runs", got.who)
	}
	kept(t, got.s, leave(6), api.ErrArg)
	got = check(t, check(t, got.s, leave(4)).s, tick(true, 40))
	if last := got.s.Log[len(got.s.Log)-1]; last != entry(40, api.Left, 4) || !slices.EqualFunc(got.s.Tasks, remaining(1, 3, 6).Tasks, task.Same) {
		t.Errorf("after another removal: %+v", got.s)
	}
}

// P17.2: a log that is full, or becomes full, within a tick that has six entries: it contains those for which there was room, and all else is the same.
func TestTickWithAFullLog(t *testing.T) {
	s := with(jobs{of(6, 5, 1, 0), of(1, 8, 1, 0), of(3, 5, 1, 0)}, 3, 0, 6)
	all := log{entry(12, api.Missed, 6), entry(12, api.Missed, 1), entry(12, api.Done, 3), entry(12, api.Left, 6), entry(12, api.Left, 3), entry(12, api.Left, 0)}
	for room := range 9 {
		s.Log = filled(api.MaxLog - room)
		want := remaining(0, 3, 6)
		want.Log = slices.Concat(s.Log, all[:min(room, len(all))])
		expect(t, s, tick(true, 12), api.OK, 3, want)
	}
	s.Log = filled(api.MaxLog)
	kept(t, s, tick(true, -1), api.ErrArg)
}

// P17.3: Add of a task that is valid or not, to any number of tasks: with MaxTasks of them it is ErrFull, but ErrArg where the task is not valid.
func TestAdd(t *testing.T) {
	for n := range api.MaxTasks + 1 {
		for k, x := range some() {
			s := fresh(slices.Clone(some()[:n]))
			for i := range s.Lasts {
				s.Lasts[i], s.Leaves[i] = 3+i, i%3 == k%3
			}
			s.Log = filled(n)
			if n > 0 {
				s.Jobs = jobs{of(n-1, 3, 1, 0), of(0, 6, 2, 1)}
			}
			if n == api.MaxTasks {
				kept(t, s, add(x), api.ErrFull)
				continue
			}
			want := s
			want.Tasks = append(slices.Clone(s.Tasks), x)
			want.Leaves = append(slices.Clone(s.Leaves), false)
			want.Lasts = append(slices.Clone(s.Lasts), -1)
			expect(t, s, add(x), api.OK, 0, want)
		}
		for _, bad := range wrongTasks() {
			kept(t, fresh(some()[:n]), add(bad), api.ErrArg)
		}
	}
}

// P17.3: tasks that were added may release, and leave; so may one in the place of one that was removed, at once.
func TestAddedTasks(t *testing.T) {
	s := state{}
	for _, x := range some() {
		s = check(t, s, add(x)).s
	}
	if !same(s, fresh(some())) {
		t.Fatalf("after Add of all: %+v", s)
	}
	s = released(t, s, 7, 1, 100)
	s = check(t, s, tick(true, 100)).s
	s = check(t, check(t, s, leave(7)).s, tick(false, 101)).s
	kept(t, s, release(7, 1, 102), api.ErrArg)
	s = check(t, s, add(some()[7])).s
	s = released(t, s, 7, 1, 102)
	kept(t, s, release(7, 1, 110), api.ErrEarly, entry(110, api.Early, 7))
}

// P17.3: Leave of each task, of tasks that there are not, and of one that is leaving already.
func TestLeave(t *testing.T) {
	for n := range api.MaxTasks + 1 {
		for _, i := range append(ends(), 2, n-1, n, n+1, api.MaxTasks, -api.MaxTasks) {
			s := fresh(some()[:n])
			s.Log = filled(3)
			if n > 0 {
				s.Jobs = jobs{of(n-1, 3, 1, 0), of(0, 6, 2, 1)}
			}
			if i < 0 || i >= n {
				kept(t, s, leave(i), api.ErrArg)
				continue
			}
			want := s
			want.Leaves = make([]bool, n)
			want.Leaves[i] = true
			expect(t, s, leave(i), api.OK, 0, want)
			kept(t, want, leave(i), api.ErrState)
			for k := range n {
				if k != i {
					if got := check(t, want, leave(k)); got.err != api.OK || !got.s.Leaves[i] || !got.s.Leaves[k] {
						t.Errorf("Leave of %d, with %d leaving: %+v", k, i, got)
					}
				}
			}
		}
	}
}

// The example of the chapter.
func TestExample(t *testing.T) {
	s, _ := part.New(tasks{{C: 2, D: 4, T: 6}})
	s, _ = part.Release(s, 0, 2, 0)
	for now, want := range []int{-1, 0, 0, -1} {
		var who int
		s, who, _ = part.Tick(s, now > 0, now)
		if who != want {
			t.Errorf("at %d %d runs", now, who)
		}
	}
	if want := (log{entry(0, api.Released, 0), entry(2, api.Done, 0)}); !slices.Equal(s.Log, want) || len(s.Jobs) > 0 {
		t.Errorf("at the end: %+v", s)
	}
}

// The eighth example of the whole.
func TestExampleOfReleases(t *testing.T) {
	s, _ := part.New(tasks{{C: 1, D: 5, T: 5}})
	for _, at := range []int{0, 4, 5, 9, 11} {
		s, _ = part.Release(s, 0, 1, at)
	}
	if want := (log{entry(0, api.Released, 0), entry(4, api.Early, 0), entry(5, api.Released, 0), entry(9, api.Early, 0), entry(11, api.Released, 0)}); !slices.Equal(s.Log, want) || len(s.Jobs) != 3 {
		t.Errorf("after the releases: %+v", s)
	}
}

// The ninth example of the whole: a task that is leaving counts until its partition has no jobs.
func TestExampleOfLeaving(t *testing.T) {
	s, _ := part.New(tasks{{C: 1, D: 9, T: 9}, {C: 3, D: 9, T: 9}})
	s, _ = part.Release(s, 1, 3, 0)
	s, _ = part.Leave(s, 0)
	for now, left := range []int{2, 2, 1} {
		if s, _, _ = part.Tick(s, true, now); len(s.Tasks) != left {
			t.Errorf("at %d: %+v", now, s)
		}
	}
	if s.Log[len(s.Log)-1] != entry(2, api.Left, 0) || s.Tasks[0].C != 3 {
		t.Errorf("at the end: %+v", s)
	}
}
