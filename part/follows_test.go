package part_test

import (
	"math/rand"
	"slices"
	"testing"

	"remontoir/api"
	"remontoir/face"
	"remontoir/part"
	"remontoir/supply"
	"remontoir/task"
	"remontoir/verdict"
)

// steps returns what may be called at a time: each task releases, or leaves, one is added, or there is a tick.
func steps(s state, now int) []call {
	out := []call{tick(true, now), tick(false, now), add(api.Task{C: 1, D: 1, T: 2})}
	for i, x := range s.Tasks {
		out = append(out, release(i, 1, now), release(i, x.C+1, now), leave(i))
	}
	return out
}

// P17.1 to P17.4, P17.6: all lists of up to six calls, the time increasing with each tick.
func TestAsDescribed(t *testing.T) {
	var walk func(s state, now, n int)
	walk = func(s state, now, n int) {
		if n == 0 {
			return
		}
		for _, c := range steps(s, now) {
			got := check(t, s, c)
			if !part.Right(got.s) || !slices.Equal(got.s.Log[:len(s.Log)], s.Log) {
				t.Fatalf("%+v of %+v: %+v", c, s, got.s)
			}
			if c.name == "Tick" {
				walk(got.s, now+1, n-1)
			} else {
				walk(got.s, now, n-1)
			}
		}
	}
	for _, l := range []tasks{nil, some()[1:2], {{C: 2, D: 2, T: 2}}, {{C: 2, D: 3, T: 3, Secs: []api.Sec{{Res: 0, At: 0, Len: 2}}}, {C: 1, D: 2, T: 4}}} {
		s, _ := part.New(l)
		walk(s, 0, 6-len(l)/2)
	}
}

// anyState returns a state by chance: mostly valid, of some of the tasks, with few jobs or many, and with an empty, a short or a full log.
func anyState(r *rand.Rand, now int) state {
	s := fresh(some()[:r.Intn(api.MaxTasks+1)])
	for i := range s.Tasks {
		s.Leaves[i] = r.Intn(3) == 0
		if r.Intn(3) > 0 {
			s.Lasts[i] = max(-1, now+20-r.Intn(60))
		}
	}
	for k := range min(len(s.Tasks), 1) * []int{0, 1, 2, 3, r.Intn(api.MaxJobs), api.MaxJobs}[r.Intn(6)] {
		i, want := r.Intn(len(s.Tasks)), 1+r.Intn(7)
		s.Jobs = append(s.Jobs, of(i, max(0, now-12)+k, want, r.Intn(2)*r.Intn(min(want, s.Tasks[i].C))))
	}
	r.Shuffle(len(s.Jobs), func(i, j int) { s.Jobs[i], s.Jobs[j] = s.Jobs[j], s.Jobs[i] })
	s.Log = filled([]int{0, 1, 7, api.MaxLog - 4, api.MaxLog - 1, api.MaxLog}[r.Intn(6)])
	return s
}

// broken returns the state with something in it that may be wrong.
func broken(r *rand.Rand, s state) state {
	n := len(s.Tasks)
	switch r.Intn(8) {
	case 0:
		s.Leaves = make([]bool, n+r.Intn(3)-min(1, n))
	case 1:
		s.Lasts = slices.Repeat([]int{4}, n+r.Intn(3)-min(1, n))
	case 2:
		s.Lasts = slices.Repeat([]int{ends()[r.Intn(len(ends()))]}, n)
	case 3:
		s.Jobs = append(slices.Clip(s.Jobs), wrongJobs()[r.Intn(len(wrongJobs()))])
	case 4:
		s.Jobs = append(slices.Clip(s.Jobs), s.Jobs...)
	case 5:
		s.Log = filled(api.MaxLog + r.Intn(3))
	case 6:
		s.Tasks = append(slices.Clip(s.Tasks), wrongTasks()[r.Intn(len(wrongTasks()))])
	default:
		s = fresh(wrongLists()[r.Intn(len(wrongLists()))])
	}
	return s
}

// anyCall returns a call by chance, with valid arguments and others.
func anyCall(r *rand.Rand, n, now int) call {
	switch r.Intn(5) {
	case 0:
		return release(r.Intn(n+2)-1, r.Intn(8), now)
	case 1:
		return release(r.Intn(n+1), 1+r.Intn(200), now+r.Intn(30))
	case 2:
		return tick(r.Intn(4) > 0, now)
	case 3:
		return leave(r.Intn(n+2) - 1)
	}
	if r.Intn(5) == 0 {
		return add(wrongTasks()[r.Intn(len(wrongTasks()))])
	}
	return add(some()[r.Intn(len(some()))])
}

// P17.1 to P17.3: calls by chance, of states by chance, valid and not.
func TestAsDescribedByChance(t *testing.T) {
	r := rand.New(rand.NewSource(31))
	counts := map[string]int{}
	for k := range 30000 {
		now := []int{0, 3, 12, 150, lastTick - 10, lastTick}[r.Intn(6)]
		s := anyState(r, min(now, lastTick-200))
		if k%4 == 0 {
			s = broken(r, s)
		}
		c := anyCall(r, len(s.Tasks), now)
		got := check(t, s, c)
		counts[c.name]++
		counts["error "+string(rune('0'+got.err))]++
		if got.err == api.OK && c.name == "Tick" {
			for _, e := range got.s.Log[len(s.Log):] {
				counts["kind "+string(rune('0'+e.Kind))]++
			}
			counts["jobs "+string(rune('0'+min(9, len(s.Jobs))))]++
		}
	}
	for _, x := range []string{"Release", "Tick", "Add", "Leave", "error 0", "error 1", "error 3", "error 6", "error 9", "kind 4", "kind 5", "kind 6", "kind 7", "jobs 0", "jobs 1", "jobs 2", "jobs 9"} {
		if counts[x] < 100 {
			t.Errorf("too few of a kind: %v", counts)
		}
	}
}

// A diary is what a log says: for each task the ticks of the releases whose jobs are neither finished nor missed, and how many entries there are of each kind.
type diary struct {
	open  [][]int
	kinds [9]int
}

// read reads an entry; of the jobs of a task the first one is finished, or missed, first.
func (d *diary) read(t *testing.T, e api.Entry) {
	t.Helper()
	d.kinds[e.Kind]++
	switch e.Kind {
	case api.Released:
		d.open[e.Task] = append(d.open[e.Task], e.At)
	case api.Done, api.Cut, api.Missed:
		if len(d.open[e.Task]) == 0 {
			t.Fatalf("%+v without a job", e)
		}
		d.open[e.Task] = d.open[e.Task][1:]
	case api.Left:
		if slices.ContainsFunc(d.open, func(l []int) bool { return len(l) > 0 }) {
			t.Fatalf("%+v while there are jobs: %v", e, d.open)
		}
		d.open = slices.Delete(d.open, e.Task, e.Task+1)
	}
}

// agrees checks that the jobs are those that the log says there are.
func (d *diary) agrees(t *testing.T, s state) {
	t.Helper()
	open := make([][]int, len(s.Tasks))
	for _, j := range s.Jobs {
		open[j.Task] = append(open[j.Task], j.At)
	}
	if !slices.EqualFunc(open, d.open, func(a, b []int) bool { return slices.Equal(a, b) }) {
		t.Fatalf("the log says %v, and there is %+v", d.open, s)
	}
}

// follow checks that a log goes on from a previous one, in order of time, and reads what is new.
func (d *diary) follow(t *testing.T, before, after log, now int) {
	t.Helper()
	if len(after) < len(before) || !slices.Equal(after[:len(before)], before) {
		t.Fatalf("an entry is lost: %d of %d", len(before), len(after))
	}
	for _, e := range after[len(before):] {
		if e.At != now {
			t.Fatalf("at %d: %+v", now, e)
		}
		d.read(t, e)
	}
}

// step returns a call by chance that may be made at a time, and whether the next one comes at a later time.
func step(r *rand.Rand, s state, now, kind int) (call, bool) {
	n := len(s.Tasks)
	if r.Intn(2) == 0 {
		if kind == 2 && r.Intn(9) > 0 { // hardly any ticks: there are more and more jobs
			return release(r.Intn(n+1), 1+r.Intn(9), now), true
		}
		return tick(r.Intn(4) > 0, now), true
	}
	switch x := r.Intn(40); {
	case x == 0:
		return leave(r.Intn(n+1) - r.Intn(2)), false
	case x < 4:
		return add(some()[r.Intn(len(some()))]), false
	}
	return release(r.Intn(n+1), 1+r.Intn(9), now), false
}

// P17.4, P17.6: long runs by chance, at times that never decrease: each state is valid, and its log says what happened, until it is full.
func TestRunsByChance(t *testing.T) {
	r := rand.New(rand.NewSource(32))
	var kinds [9]int
	full := 0
	for k := range 60 {
		s, _ := part.New(some()[:r.Intn(api.MaxTasks+1)])
		d := diary{open: make([][]int, len(s.Tasks))}
		now := []int{0, 77, lastTick - 9000}[r.Intn(3)]
		for range 2500 {
			c, later := step(r, s, now, k%3)
			got := check(t, s, c)
			if !part.Right(got.s) {
				t.Fatalf("%+v of %+v: not valid: %+v", c, s, got.s)
			}
			if len(got.s.Log) < api.MaxLog {
				d.follow(t, s.Log, got.s.Log, now)
				for len(d.open) < len(got.s.Tasks) {
					d.open = append(d.open, nil)
				}
				d.agrees(t, got.s)
			} else if full++; !slices.Equal(got.s.Log[:len(s.Log)], s.Log) {
				t.Fatalf("%+v: an entry of a full log is lost", c)
			}
			s = got.s
			if later {
				now += 1 + r.Intn(2)*r.Intn(3)*(k%2) + k%3/2*r.Intn(40)
			}
		}
		for n, count := range d.kinds {
			kinds[n] += count
		}
	}
	for kind := api.Released; kind <= api.Left; kind++ {
		if kinds[kind] < 100 {
			t.Errorf("too few of a kind: %v", kinds)
		}
	}
	if kinds[api.Refused] > 0 || full < 1000 {
		t.Errorf("%d calls with a full log, and of each kind: %v", full, kinds)
	}
}

// pattern returns a supply pattern of n ticks: the worst one (the ticks of the first period at its beginning, those of all others at their ends), or the ticks of each period at its beginning, at its end, anywhere, or anywhere with others beside them.
func pattern(r *rand.Rand, f api.Face, n, kind int) []bool {
	given := make([]bool, 0, n+f.P)
	for len(given) < n {
		period := make([]bool, f.P)
		for i := range f.P {
			period[i] = i < f.B
		}
		switch {
		case kind == 0 && len(given) > 0, kind == 2:
			slices.Reverse(period)
		case kind > 2:
			r.Shuffle(f.P, func(i, j int) { period[i], period[j] = period[j], period[i] })
		}
		if kind == 4 {
			period[r.Intn(f.P)] = true
		}
		given = append(given, period...)
	}
	return given[:n]
}

// A ride is a partition whose tasks fit an interface, whose ticks it gets; counts says how close it was.
type ride struct {
	s      state
	now    int
	counts map[string]int
}

// ask releases a job, if the task may release one.
func (x *ride) ask(t *testing.T, i, want int) {
	t.Helper()
	s, err := part.Release(x.s, i, want, x.now)
	if err != api.OK && err != api.ErrEarly && err != api.ErrState {
		t.Fatalf("Release of %d of %+v: %d", i, x.s, err)
	}
	x.s = s
}

// tick gives a tick, or none, and checks that no job is missed (P17.5).
func (x *ride) tick(t *testing.T, given bool) {
	t.Helper()
	before := x.s
	if slices.ContainsFunc(before.Jobs, func(j api.Job) bool { return j.Due <= x.now }) {
		t.Fatalf("at %d a job is missed: %+v", x.now, before)
	}
	s, _, err := part.Tick(before, given, x.now)
	if err != api.OK || !part.Right(s) || slices.ContainsFunc(s.Log, func(e api.Entry) bool { return e.Kind == api.Missed }) {
		t.Fatalf("Tick at %d of %+v: %+v, %d", x.now, before, s, err)
	}
	for _, j := range before.Jobs {
		if j.Due == x.now+1 {
			x.counts["in its last tick"]++
		}
	}
	for _, e := range s.Log {
		x.counts["kind "+string(rune('0'+e.Kind))]++
	}
	s.Log = nil // it would be full
	x.s = s
	x.now++
}

// P17.5: small tasks, the interfaces that are just sufficient for them, all patterns of the supply with just as many ticks, and all releases within some ticks.
func TestDeadlines(t *testing.T) {
	counts := map[string]int{}
	for _, l := range []tasks{
		{{C: 1, D: 3, T: 3}},
		{{C: 2, D: 5, T: 6}},
		{{C: 1, D: 4, T: 5}, {C: 1, D: 5, T: 5}},
		{{C: 1, D: 5, T: 5, Secs: []api.Sec{{Res: 0, At: 0, Len: 1}}}, {C: 2, D: 6, T: 6, Secs: []api.Sec{{Res: 0, At: 0, Len: 2}}}},
		{{C: 2, D: 9, T: 9, Secs: []api.Sec{{Res: 1, At: 0, Len: 2}}}, {C: 1, D: 6, T: 6, Secs: []api.Sec{{Res: 1, At: 0, Len: 1}}}},
	} {
		for p := 1; p <= 4; p++ {
			f, err := face.Least(l, p)
			if err == api.ErrDeny {
				continue
			}
			s, _ := part.New(l)
			walkDeadlines(t, ride{s: s, counts: counts}, f, 0)
		}
	}
	if counts["in its last tick"] < 1000 || counts["kind 4"] < 1000 || counts["kind 5"] < 1000 || counts["kind 7"] < 1000 {
		t.Errorf("too few of a kind: %v", counts)
	}
}

// walkDeadlines goes through all ways in which ticks are provided, f.B in each period, of which this one already had some, and all releases; at one tick the first task may leave.
func walkDeadlines(t *testing.T, x ride, f api.Face, had int) {
	t.Helper()
	if x.now == 12 {
		return
	}
	if x.now%f.P == 0 {
		had = 0
	}
	left := f.P - 1 - x.now%f.P
	for more := range 2 {
		if had+more > f.B || had+more+left < f.B {
			continue
		}
		for set := range 1 << len(x.s.Tasks) {
			y, ok := x.releases(t, set)
			if !ok {
				continue
			}
			z := y
			z.tick(t, more == 1)
			walkDeadlines(t, z, f, had+more)
			if y.now == 4 && len(y.s.Tasks) > 0 {
				y.s, _ = part.Leave(y.s, 0)
				y.tick(t, more == 1)
				walkDeadlines(t, y, f, had+more)
			}
		}
	}
}

// releases releases a job of each task in a set; false, if one of them may not.
func (x ride) releases(t *testing.T, set int) (ride, bool) {
	t.Helper()
	for i := range x.s.Tasks {
		if set>>i&1 == 1 {
			before := len(x.s.Jobs)
			x.ask(t, i, 1+x.now%3)
			if len(x.s.Jobs) == before {
				return x, false
			}
		}
	}
	return x, true
}

// fitting returns tasks by chance, and an interface that is just sufficient for them.
func fitting(r *rand.Rand) (tasks, api.Face) {
	for {
		var l tasks
		n := 1 + r.Intn(api.MaxTasks)
		for range n {
			l = append(l, anyTask(r, n))
		}
		f, err := face.Least(l, []int{1, 2, 3, 4, 6, 8}[r.Intn(6)])
		if err == api.OK {
			return l, f
		}
	}
}

// anyTask returns a valid task by chance, one of n; the T have small cycles.
func anyTask(r *rand.Rand, n int) api.Task {
	for {
		period := []int{4, 6, 8, 12, 16, 24, 48}[r.Intn(7)]
		d := period - r.Intn(period/2)
		x := api.Task{C: 1 + r.Intn(max(1, 2*d/(n+1))), D: d, T: period}
		x.C = min(x.C, d)
		for at := 0; at < x.C && len(x.Secs) < api.MaxSecs && r.Intn(3) > 0; at += r.Intn(3) {
			x.Secs = append(x.Secs, api.Sec{Res: r.Intn(api.MaxRes), At: at, Len: 1 + r.Intn(x.C-at)})
		}
		if task.Right(x) {
			return x
		}
	}
}

// P17.5: tasks by chance, released as early as possible, or by chance, from the beginning on, or from the worst tick of the supply on; some of them leave, and others stay.
func TestDeadlinesByChance(t *testing.T) {
	r := rand.New(rand.NewSource(33))
	counts := map[string]int{}
	for k := range 1200 {
		l, f := fitting(r)
		if fits, err := verdict.Fits(l, f); !fits || err != api.OK {
			t.Fatalf("%v and %v: %v, %d", l, f, fits, err)
		}
		given := pattern(r, f, 200, k%5)
		if !supply.Legal(f, given) {
			t.Fatalf("not a pattern of %v: %v", f, given)
		}
		s, _ := part.New(l)
		x := ride{s: s, counts: counts}
		for now, provided := range given {
			for i := range x.s.Tasks {
				if wanted(r, k, now, i, f) {
					x.ask(t, i, []int{1 + r.Intn(9), api.MaxTime, max(1, x.s.Tasks[i].C)}[r.Intn(3)])
				}
			}
			if n := len(x.s.Tasks); n > 0 && k%2 == 1 && r.Intn(60) == 0 {
				x.s, _ = part.Leave(x.s, r.Intn(n))
			}
			x.tick(t, provided)
		}
	}
	for _, kind := range []string{"in its last tick", "kind 1", "kind 2", "kind 4", "kind 5", "kind 7"} {
		if counts[kind] < 300 {
			t.Errorf("too few of a kind: %v", counts)
		}
	}
}

// wanted reports whether a task asks for a release, in run k.
func wanted(r *rand.Rand, k, now, i int, f api.Face) bool {
	switch k / 5 % 4 {
	case 0: // all at once, when the worst pattern begins to provide nothing
		return now >= f.B
	case 1: // the last one first, and the others in the tick after it
		return now > f.B || now == f.B && i%3 == k%3
	case 2:
		return r.Intn(4) == 0
	}
	return r.Intn(12) == 0 || now%24 == 0
}

// P17.5: it is the fitting that counts: with an interface of one tick less, in its worst pattern, tasks without sections that are released when it begins to provide nothing miss a deadline, and that is logged.
func TestMissedWhereTasksDoNotFit(t *testing.T) {
	r := rand.New(rand.NewSource(34))
	tried := 0
	for range 600 {
		l, f := fitting(r)
		for i := range l {
			l[i].Secs = nil
		}
		f, err := face.Least(l, f.P)
		if err != api.OK || f.B == 1 {
			continue
		}
		f.B--
		first, found, err := verdict.First(l, f)
		if !found || err != api.OK {
			t.Fatalf("First(%v, %v): %v, %d", l, f, found, err)
		}
		s, _ := part.New(l)
		missed := 0
		for now, provided := range pattern(r, f, f.B+first+1, 0) {
			for i := range l {
				if now >= f.B {
					s, _ = part.Release(s, i, api.MaxTime, now)
				}
			}
			s, _, _ = part.Tick(s, provided, now)
			for _, e := range s.Log {
				if e.Kind == api.Missed {
					missed++
				}
			}
			s.Log = nil
		}
		if tried++; missed == 0 {
			t.Errorf("%v with %v: none is missed within %d ticks", l, f, first)
		}
	}
	if tried < 300 {
		t.Errorf("too few tasks that do not fit: %d", tried)
	}
}
