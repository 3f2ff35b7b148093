package admit_test

import (
	"math/rand"
	"slices"
	"testing"

	"remontoir/admit"
	"remontoir/api"
	"remontoir/face"
	"remontoir/part"
	"remontoir/supply"
	"remontoir/task"
)

// steps returns what may be called at a time: of this layer, and what a partition does beside it.
func steps(s state, f api.Face, pool tasks, now int) []func(t *testing.T, s state) (state, int) {
	var out []func(t *testing.T, s state) (state, int)
	ours := func(c call) {
		out = append(out, func(t *testing.T, s state) (state, int) { return check(t, s, c).s, now })
	}
	for _, x := range pool {
		ours(add(f, x))
	}
	for i := range s.Tasks {
		ours(drop(i))
		ours(change(f, i, pool[now%len(pool)]))
		out = append(out, func(t *testing.T, s state) (state, int) {
			after, _ := part.Release(s, i, 2, now)
			return after, now
		})
	}
	for _, given := range []bool{false, true} {
		out = append(out, func(t *testing.T, s state) (state, int) {
			after, _, _ := part.Tick(s, given, now)
			return after, now + 1
		})
	}
	return out
}

// P20.1 to P20.3: all lists of up to five calls, with releases and ticks among them.
func TestAsDescribed(t *testing.T) {
	pool := tasks{with(1, 4, 4), with(2, 6, 8, 0, 0, 2), with(1, 8, 8, 0, 0, 1)}
	var walk func(s state, f api.Face, now, n int)
	walk = func(s state, f api.Face, now, n int) {
		if !part.Right(s) {
			t.Fatalf("not valid: %+v", s)
		}
		if n == 0 {
			return
		}
		for _, step := range steps(s, f, pool, now) {
			after, later := step(t, s)
			walk(after, f, later, n-1)
		}
	}
	for _, f := range []api.Face{half, every, {P: 4, B: 3}} {
		for n := range len(pool) + 1 {
			if got := check(t, state{Tasks: pool[:n]}, boot(f)); got.err == api.OK {
				walk(got.s, f, 0, 5-n/2)
			}
		}
	}
}

// anyTask returns a valid task by chance, one of n; the T have small cycles, with a few exceptions.
func anyTask(r *rand.Rand, n int) api.Task {
	for {
		period := []int{4, 6, 8, 12, 16, 24, 48}[r.Intn(7)]
		if r.Intn(30) == 0 {
			period = []int{71, 100, 125, 197, 200}[r.Intn(5)]
		}
		d := period - r.Intn(period/2)
		x := api.Task{C: min(d, 1+r.Intn(max(1, 2*d/(n+1)))), D: d, T: period}
		for at := 0; at < x.C && len(x.Secs) < api.MaxSecs && r.Intn(3) > 0; at += r.Intn(3) {
			x.Secs = append(x.Secs, api.Sec{Res: r.Intn(api.MaxRes), At: at, Len: 1 + r.Intn(x.C-at)})
		}
		if task.Right(x) {
			return x
		}
	}
}

// anyTasks returns n tasks by chance.
func anyTasks(r *rand.Rand, n int) tasks {
	var l tasks
	for range n {
		l = append(l, anyTask(r, n+2))
	}
	return l
}

// anyFace returns a valid interface by chance.
func anyFace(r *rand.Rand) api.Face {
	p := []int{1, 2, 3, 4, 6, 8, 12}[r.Intn(7)]
	return api.Face{P: p, B: p - r.Intn(p)*r.Intn(2)}
}

// disguised returns the state with the same tasks, and other jobs, releases and entries by chance; one of the jobs, or several, have begun, or none.
func disguised(r *rand.Rand, s state, started bool) state {
	n := len(s.Tasks)
	s.Lasts, s.Jobs, s.Log = slices.Repeat([]int{-1}, n), nil, filled([]int{0, 1, 9, api.MaxLog - 1, api.MaxLog}[r.Intn(5)])
	for i := range s.Lasts {
		s.Lasts[i] = []int{-1, 0, r.Intn(300), lastTick, api.MaxNum}[r.Intn(5)]
	}
	if n == 0 {
		return s
	}
	for k := range []int{0, 1, 2, 3, 9, api.MaxJobs}[r.Intn(6)] {
		i, from := r.Intn(n), []int{0, 7, 500, lastTick - 50}[r.Intn(4)]
		s.Jobs = append(s.Jobs, jobOf(s.Tasks, i, from+k, 1+r.Intn(api.MaxTime), 0))
	}
	slices.SortFunc(s.Jobs, func(a, b api.Job) int { return a.At - b.At })
	s.Jobs = slices.CompactFunc(s.Jobs, func(a, b api.Job) bool { return a.At == b.At })
	r.Shuffle(len(s.Jobs), func(i, j int) { s.Jobs[i], s.Jobs[j] = s.Jobs[j], s.Jobs[i] })
	if !started {
		return s
	}
	if len(s.Jobs) == 0 {
		s.Jobs = jobs{jobOf(s.Tasks, r.Intn(n), 3, 1+r.Intn(9), 0)}
	}
	for range 1 + r.Intn(3)*r.Intn(9) {
		i := r.Intn(len(s.Jobs))
		j := s.Jobs[i]
		s.Jobs = begun(s.Jobs, i, r.Intn(min(j.Want, s.Tasks[j.Task].C)))
	}
	return s
}

// anyState returns a valid state by chance; whether its tasks fit anything is not known.
func anyState(r *rand.Rand) state {
	s := fresh(anyTasks(r, []int{0, 1, 2, 3, 4, 7, 7, 8}[r.Intn(8)]))
	for i := range s.Leaves {
		s.Leaves[i] = r.Intn(3) == 0
	}
	return disguised(r, s, r.Intn(4) == 0 && len(s.Tasks) > 0)
}

// anyCall returns a call by chance for a state with n tasks; some of its arguments are not valid.
func anyCall(r *rand.Rand, n int) call {
	f, i, x := anyFace(r), r.Intn(n+1)-r.Intn(2), anyTask(r, 3+r.Intn(12))
	switch r.Intn(24) {
	case 0:
		f = wrongFaces()[r.Intn(len(wrongFaces()))]
	case 1:
		x = wrongTasks()[r.Intn(len(wrongTasks()))]
	case 2:
		i = ends()[r.Intn(len(ends()))]
	}
	return []call{boot(f), add(f, x), add(f, x), drop(i), change(f, i, x), change(f, i, x)}[r.Intn(6)]
}

// P20.1 to P20.3: calls by chance, of states by chance, valid and not.
func TestAsDescribedByChance(t *testing.T) {
	r := rand.New(rand.NewSource(51))
	counts := map[string]int{}
	wrong := wrongStates()
	for k := range 20000 {
		s := anyState(r)
		if k%20 == 0 {
			s = wrong[r.Intn(len(wrong))]
		}
		c := anyCall(r, len(s.Tasks))
		got := check(t, s, c)
		counts[c.name+" "+string(rune('0'+got.err))]++
	}
	for _, x := range []string{"Boot 0", "Boot 1", "Boot 5", "Boot 7", "Add 0", "Add 1", "Add 3", "Add 5", "Add 7", "Add 9", "Drop 0", "Drop 1", "Drop 9", "Change 0", "Change 1", "Change 3", "Change 5", "Change 7", "Change 9"} {
		if counts[x] < 30 {
			t.Errorf("too few of a kind: %v", counts)
		}
	}
}

// P20.5: of two states with the same tasks, which have other jobs, releases and entries, but in both or in none of which a job has begun, the calls return the same error, the same tasks, and the same flags.
func TestTheSameTasks(t *testing.T) {
	r := rand.New(rand.NewSource(52))
	counts := map[api.Errno]int{}
	for range 6000 {
		a := anyState(r)
		started := slices.ContainsFunc(a.Jobs, func(j api.Job) bool { return j.Began })
		b := disguised(r, a, started)
		if !part.Right(a) || !part.Right(b) {
			t.Fatalf("not valid: %+v, %+v", a, b)
		}
		c := anyCall(r, len(a.Tasks))
		x, y := c.do(a), c.do(b)
		if x.err != y.err || !slices.EqualFunc(x.s.Tasks, y.s.Tasks, task.Same) || !slices.Equal(x.s.Leaves, y.s.Leaves) {
			t.Fatalf("%+v of %+v: %+v, and of %+v: %+v", c, a, x, b, y)
		}
		if c.name == "Boot" {
			continue
		}
		counts[x.err]++
		for _, z := range []struct{ before, after state }{{a, x.s}, {b, y.s}} {
			n := len(z.before.Lasts)
			if !slices.Equal(z.after.Lasts[:n], z.before.Lasts) || !slices.Equal(z.after.Jobs, z.before.Jobs) || !slices.Equal(z.after.Log, z.before.Log) || slices.ContainsFunc(z.after.Lasts[n:], func(at int) bool { return at != -1 }) {
				t.Fatalf("%+v of %+v: %+v", c, z.before, z.after)
			}
		}
	}
	for _, err := range []api.Errno{api.OK, api.ErrArg, api.ErrFull, api.ErrLarge, api.ErrDeny, api.ErrState} {
		if counts[err] < 60 {
			t.Errorf("too few of a kind: %v", counts)
		}
	}
}

// P20.5: two partitions with the same tasks, of which one releases nothing and has no ticks, and the other one has any number of releases and ticks: whenever no job has begun, and none is gone, Add and Change return the same.
func TestTheSameTasksWithAHistory(t *testing.T) {
	r := rand.New(rand.NewSource(53))
	compared := 0
	for range 60 {
		l, f := fitting(r)
		idle := booted(t, l, f)
		s := idle
		for now, given := range pattern(r, f, 60, 4) {
			for i := range l {
				if r.Intn(6) == 0 {
					s, _ = part.Release(s, i, 1+r.Intn(9), now)
				}
			}
			if !slices.ContainsFunc(s.Jobs, func(j api.Job) bool { return j.Began }) {
				x, i := anyTask(r, 8), r.Intn(len(l))
				for _, c := range both(f, i, x) {
					a, b := c.do(idle), c.do(s)
					if a.err != b.err || !slices.EqualFunc(a.s.Tasks, b.s.Tasks, task.Same) || !slices.Equal(a.s.Leaves, b.s.Leaves) {
						t.Fatalf("%+v of %+v: %+v, and of %+v: %+v", c, idle, a, s, b)
					}
					compared++
				}
			}
			s, _, _ = part.Tick(s, given, now)
		}
	}
	if compared < 1000 {
		t.Errorf("%d compared", compared)
	}
}

// pattern returns a supply pattern of n ticks: the worst one (the ticks of the first period at its beginning, those of all others at their ends), or the ticks of each period at its beginning, at its end, anywhere, or anywhere with others beside them.
func pattern(r *rand.Rand, f api.Face, n, kind int) []bool {
	given := make([]bool, 0, n+f.P)
	for len(given) < n {
		period := make([]bool, f.P)
		for i := range f.P {
			period[i] = i < f.B
		}
		switch {
		case kind == 0 && len(given) > 0, kind == 2:
			slices.Reverse(period)
		case kind > 2:
			r.Shuffle(f.P, func(i, j int) { period[i], period[j] = period[j], period[i] })
		}
		if kind == 4 {
			period[r.Intn(f.P)] = true
		}
		given = append(given, period...)
	}
	return given[:n]
}

// fitting returns tasks by chance, and an interface that is just sufficient for them.
func fitting(r *rand.Rand) (tasks, api.Face) {
	for {
		l := anyTasks(r, 1+r.Intn(api.MaxTasks))
		f, err := face.Least(l, []int{1, 2, 3, 4, 8, 12, 16, 24}[r.Intn(8)])
		if err == api.OK {
			return l, f
		}
	}
}

// A ride is a partition that gets the ticks of its interface; counts says what happened, and how close it was.
type ride struct {
	s      state
	f      api.Face
	now    int
	counts map[string]int
}

// ask makes a call of this layer, which is checked where it is to be.
func (x *ride) ask(t *testing.T, c call, checked bool) {
	t.Helper()
	var got answer
	if checked {
		got = check(t, x.s, c)
	} else {
		got = c.do(x.s)
	}
	x.s = got.s
	x.counts[c.name+" "+string(rune('0'+got.err))]++
}

// release releases a job, if the task may release one.
func (x *ride) release(t *testing.T, i, want int) {
	t.Helper()
	s, err := part.Release(x.s, i, want, x.now)
	if err != api.OK && err != api.ErrEarly && err != api.ErrState {
		t.Fatalf("Release of %d of %+v: %d", i, x.s, err)
	}
	x.s = s
}

// tick gives a tick, or none, and checks that no job is missed.
func (x *ride) tick(t *testing.T, given bool) {
	t.Helper()
	before := x.s
	if slices.ContainsFunc(before.Jobs, func(j api.Job) bool { return j.Due <= x.now }) {
		t.Fatalf("at %d a job is missed: %+v", x.now, before)
	}
	s, _, err := part.Tick(before, given, x.now)
	if err != api.OK || slices.ContainsFunc(s.Log, func(e api.Entry) bool { return e.Kind == api.Missed }) {
		t.Fatalf("Tick at %d of %+v: %+v, %d", x.now, before, s, err)
	}
	for _, j := range before.Jobs {
		if j.Due == x.now+1 {
			x.counts["in its last tick"]++
		}
	}
	for _, e := range s.Log {
		x.counts["kind "+string(rune('0'+e.Kind))]++
	}
	s.Log = nil // it would be full
	x.s = s
	x.now++
}

// P20.4: small tasks, all patterns of the supply with just as many ticks, and at up to two ticks one is added, or another one is dropped, or changed; the tasks release as early as possible, from any tick on, or the last one alone.
func TestDeadlines(t *testing.T) {
	counts := map[string]int{}
	for _, x := range []struct {
		f    api.Face
		pool tasks
		n    int
	}{
		{half, tasks{with(1, 4, 4), with(1, 5, 8, 0, 0, 1)}, 1},
		{half, tasks{with(1, 7, 8), with(2, 8, 8, 0, 0, 2), with(1, 6, 8, 0, 0, 1)}, 2},
		{api.Face{P: 3, B: 2}, tasks{with(1, 3, 4, 1, 0, 1), with(1, 6, 6), with(3, 9, 12, 1, 0, 2)}, 0},
		{every, tasks{with(1, 2, 4), with(2, 4, 4), with(2, 4, 4, 0, 0, 2)}, 1},
	} {
		s := booted(t, x.pool[:x.n], x.f)
		walkDeadlines(t, ride{s: s, f: x.f, counts: counts}, x.pool, 0, 2)
	}
	for _, kind := range []string{"in its last tick", "kind 1", "kind 4", "kind 7", "Add 0", "Add 7", "Add 9", "Drop 0", "Change 0", "Change 7", "Change 9"} {
		if counts[kind] < 300 {
			t.Errorf("too few of a kind: %v", counts)
		}
	}
}

// walkDeadlines goes through all ways in which ticks are provided, f.B in each period, of which this one already had some, all releases, and all calls, of which so many are left.
func walkDeadlines(t *testing.T, x ride, pool tasks, had, calls int) {
	t.Helper()
	if x.now == 8 {
		return
	}
	if x.now%x.f.P == 0 {
		had = 0
	}
	left := x.f.P - 1 - x.now%x.f.P
	options := []call{{}}
	if calls > 0 {
		for _, y := range pool {
			options = append(options, add(x.f, y))
		}
		if len(x.s.Tasks) > 0 {
			options = append(options, drop(0), change(x.f, 0, pool[len(pool)-1]))
		}
	}
	for more := range 2 {
		if had+more > x.f.B || had+more+left < x.f.B {
			continue
		}
		for _, c := range options {
			y, used := x, 0
			if c.name != "" {
				y.ask(t, c, false)
				used = 1
			}
			for kind := range 3 {
				if z, ok := y.releases(t, kind); ok {
					z.tick(t, more == 1)
					walkDeadlines(t, z, pool, had+more, calls-used)
				}
			}
		}
	}
}

// releases releases no jobs, jobs of all tasks that may, or of the last one alone; false, if there are none.
func (x ride) releases(t *testing.T, kind int) (ride, bool) {
	t.Helper()
	before := len(x.s.Jobs)
	for i := range x.s.Tasks {
		if kind == 1 || kind == 2 && i == len(x.s.Tasks)-1 && i > 0 {
			x.release(t, i, x.s.Tasks[i].C+x.now%2)
		}
	}
	return x, kind == 0 || len(x.s.Jobs) > before
}

// P20.4: tasks by chance, with an interface that is just sufficient for about as many; they are added, dropped and changed at any time, and released as early as possible, or by chance.
func TestDeadlinesByChance(t *testing.T) {
	r := rand.New(rand.NewSource(54))
	counts := map[string]int{}
	for k := range 5000 {
		l, f := fitting(r)
		given := pattern(r, f, 250, k%5)
		if !supply.Legal(f, given) {
			t.Fatalf("not a pattern of %v: %v", f, given)
		}
		x := ride{s: booted(t, l[:len(l)-r.Intn(len(l)+1)*r.Intn(2)], f), f: f, counts: counts}
		for _, provided := range given {
			if r.Intn(20) == 0 {
				x.ask(t, anyAsk(r, x, l), k%10 == 0)
			}
			for i := range x.s.Tasks {
				if wanted(r, k, x.now, i, f) {
					x.release(t, i, []int{1 + r.Intn(9), api.MaxTime, x.s.Tasks[i].C}[r.Intn(3)])
				}
			}
			x.tick(t, provided)
		}
	}
	for _, kind := range []string{"in its last tick", "kind 1", "kind 2", "kind 4", "kind 5", "kind 7", "Add 0", "Add 3", "Add 5", "Add 7", "Add 9", "Drop 0", "Change 0", "Change 7", "Change 9"} {
		if counts[kind] < 50 {
			t.Errorf("too few of a kind: %v", counts)
		}
	}
}

// anyAsk returns a call by chance for a ride, mostly with one of these tasks.
func anyAsk(r *rand.Rand, x ride, l tasks) call {
	y, n := l[r.Intn(len(l))], len(x.s.Tasks)
	if r.Intn(3) == 0 {
		y = anyTask(r, 8)
	}
	switch k := r.Intn(12); {
	case k == 0 && n > 0:
		return drop(r.Intn(n))
	case k < 4 && n > 0:
		return change(x.f, r.Intn(n), y)
	}
	return add(x.f, y)
}

// wanted reports whether a task asks for a release, in run k.
func wanted(r *rand.Rand, k, now, i int, f api.Face) bool {
	switch k / 5 % 4 {
	case 0: // all at once, when the worst pattern begins to provide nothing
		return now >= f.B
	case 1: // the last one first, and the others in the tick after it
		return now > f.B || now == f.B && i%3 == k%3
	case 2:
		return r.Intn(4) == 0
	}
	return r.Intn(12) == 0 || now%24 == 0
}

// missed returns how many jobs are missed in n ticks of the worst pattern, if the tasks release as early as possible from the tick on at which it begins to provide nothing.
func missed(r *rand.Rand, s state, f api.Face, n int) int {
	count := 0
	for now, provided := range pattern(r, f, n, 0) {
		if now >= f.B {
			for i := range s.Tasks {
				s, _ = part.Release(s, i, api.MaxTime, now)
			}
		}
		s, _, _ = part.Tick(s, provided, now)
		count += entries(s.Log, api.Missed)
		s.Log = nil // it would be full
	}
	return count
}

// entries returns how many entries of a kind there are.
func entries(l log, kind int) int {
	n := 0
	for _, e := range l {
		if e.Kind == kind {
			n++
		}
	}
	return n
}

// P20.4: it is what was denied that would be missed: with a task that is added all the same, if there are no sections, there are jobs that miss their deadline; with those that are admitted there are none.
func TestWhatIsDeniedWouldBeMissed(t *testing.T) {
	r := rand.New(rand.NewSource(55))
	denied, admitted := 0, 0
	for range 400 {
		l, f := fitting(r)
		for i := range l {
			l[i].Secs = nil
		}
		x := anyTask(r, 9)
		x.Secs = nil
		before := booted(t, l, f)
		s, err := admit.Add(before, f, x)
		switch err {
		case api.OK:
			admitted++
			if n := missed(r, s, f, 300); n > 0 {
				t.Fatalf("%+v of %v added to %v: %d missed", x, f, l, n)
			}
		case api.ErrDeny:
			denied++
			s, _ := part.Add(before, x)
			if n := missed(r, s, f, f.B+600); n == 0 {
				t.Fatalf("%+v of %v denied to %v: none missed", x, f, l)
			}
		}
	}
	if denied < 50 || admitted < 50 {
		t.Errorf("%d denied, %d admitted", denied, admitted)
	}
}

// A late is a task that comes to a partition while it runs: through this layer, or, where it is too early, past it.
type late struct {
	x    api.Task
	f    api.Face
	past bool
	at   int
}

// come adds the task, and releases its first job; it returns whether this was done.
func (y *late) come(s state, now int) (state, bool) {
	var err api.Errno
	if y.past {
		s, err = part.Add(s, y.x)
	} else {
		s, err = admit.Add(s, y.f, y.x)
	}
	if err != api.OK {
		return s, false
	}
	y.at = now
	s, err = part.Release(s, len(s.Tasks)-1, api.MaxTime, now)
	return s, err == api.OK
}

// P20.4: a task that is leaving still has a job, which has not begun: with one more that is added in its place too early, both are too much.
func TestAddedBesideOneThatIsLeaving(t *testing.T) {
	for _, past := range []bool{true, false} {
		y := late{x: with(1, 4, 4), f: half, past: past}
		s := booted(t, tasks{y.x}, half)
		came := false
		for now, given := range []bool{true, false, false, true, false, true, true, false, false, true} {
			if now == 1 {
				s, _ = part.Release(s, 0, 1, now)
				s, _ = admit.Drop(s, 0)
			}
			if now > 0 && !came {
				s, came = y.come(s, now)
			}
			s, _, _ = part.Tick(s, given, now)
		}
		if n := entries(s.Log, api.Missed); past != (n > 0) || !came || !past && y.at != 4 {
			t.Errorf("past the layer: %v, added at %d, %d missed: %v", past, y.at, n, s.Log)
		}
	}
}

// P20.4: two jobs have begun, each of which holds what no other task uses: a task that uses both would be blocked by both, so it is added only when none has begun.
func TestAddedWhileJobsHold(t *testing.T) {
	for _, past := range []bool{true, false} {
		y := late{x: with(2, 8, 40, 0, 0, 1, 1, 1, 1), f: every, past: past}
		s := booted(t, tasks{with(6, 20, 40, 0, 0, 6), with(4, 16, 40, 1, 0, 4)}, every)
		came := false
		for now := range 30 {
			if now < 2 {
				s, _ = part.Release(s, now, api.MaxTime, now)
			} else if !came {
				s, came = y.come(s, now)
			}
			s, _, _ = part.Tick(s, true, now)
		}
		if n := entries(s.Log, api.Missed); past != (n > 0) || !came || !past && y.at != 10 {
			t.Errorf("past the layer: %v, added at %d, %d missed: %v", past, y.at, n, s.Log)
		}
	}
}
