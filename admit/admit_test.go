package admit_test

import (
	"math"
	"slices"
	"testing"

	"remontoir/admit"
	"remontoir/api"
	"remontoir/job"
	"remontoir/part"
	"remontoir/police"
	"remontoir/task"
)

type (
	tasks = []api.Task
	jobs  = []api.Job
	log   = []api.Entry
	state = part.State
)

// lastTick is the last tick that there is for a partition.
const lastTick = api.MaxNum - api.MaxTime

// half provides every other tick, every provides every tick.
var half, every = api.Face{P: 2, B: 1}, api.Face{P: 1, B: 1}

// ends returns the numbers at the ends of int, and at what is promised of numbers.
func ends() []int {
	return []int{math.MinInt, math.MinInt + 1, -api.MaxNum, -2, -1, 0, 1, 1<<32 + 1, lastTick, lastTick + 1, api.MaxNum, api.MaxNum + 1, math.MaxInt - 1, math.MaxInt}
}

// plain returns tasks without sections, of the numbers taken in threes: C, D, T.
func plain(n ...int) tasks {
	var l tasks
	for i := 0; i+2 < len(n); i += 3 {
		l = append(l, api.Task{C: n[i], D: n[i+1], T: n[i+2]})
	}
	return l
}

// with returns a task with sections, of the numbers taken in threes: Res, At, Len.
func with(c, d, t int, n ...int) api.Task {
	x := api.Task{C: c, D: d, T: t}
	for i := 0; i+2 < len(n); i += 3 {
		x.Secs = append(x.Secs, api.Sec{Res: n[i], At: n[i+1], Len: n[i+2]})
	}
	return x
}

// light returns as many tasks as there may be; some have sections, and with half all of them fit, also with another one of C 1, D 24, T 24.
func light() tasks {
	return tasks{
		with(2, 20, 24, 0, 0, 2, 1, 1, 1), with(1, 24, 24), with(1, 12, 24, 0, 0, 1), with(1, 8, 12),
		with(1, 24, 24), with(2, 24, 48, 3, 0, 2), with(1, 18, 24, 1, 0, 1), with(1, 23, 24),
	}
}

// wrongTasks returns tasks that are not valid.
func wrongTasks() tasks {
	return tasks{
		{}, {C: 0, D: 1, T: 1}, {C: -1, D: 1, T: 1}, {C: 3, D: 2, T: 4}, {C: 1, D: 3, T: 2}, {C: 1, D: 1, T: 201}, {C: 1, D: 201, T: 201}, {C: 201, D: 201, T: 201},
		with(3, 3, 3, 4, 0, 1), with(3, 3, 3, -1, 0, 1), with(3, 3, 3, 0, -1, 1), with(3, 3, 3, 0, 2, 2), with(3, 3, 3, 0, 0, 0), with(3, 3, 3, 0, 0, 2, 0, 1, 1), with(3, 3, 3, 1, 1, 1, 0, 0, 1),
		with(5, 5, 5, 0, 0, 1, 0, 1, 1, 0, 2, 1, 0, 3, 1, 0, 4, 1),
		{C: math.MaxInt, D: math.MaxInt, T: math.MaxInt}, {C: math.MinInt, D: math.MinInt, T: math.MinInt},
	}
}

// justValid returns tasks that are just valid, each of which fits every.
func justValid() tasks {
	return tasks{
		{C: 1, D: 1, T: 1}, {C: 1, D: 1, T: 200}, {C: 200, D: 200, T: 200}, {C: 1, D: 200, T: 200}, {C: 3, D: 3, T: 3},
		with(3, 3, 3, 3, 2, 1), with(3, 3, 3, 0, 0, 3), with(3, 3, 3, 0, 0, 2, 0, 2, 1), with(3, 3, 3, 1, 0, 1, 0, 0, 1), with(4, 4, 4, 0, 0, 1, 0, 1, 1, 0, 2, 1, 0, 3, 1),
	}
}

// wrongFaces returns interfaces that are not valid.
func wrongFaces() []api.Face {
	out := []api.Face{{}, {P: 0, B: 0}, {P: 1, B: 0}, {P: 0, B: 1}, {P: 2, B: 3}, {P: 2, B: -1}, {P: -2, B: -1}, {P: 201, B: 1}, {P: 201, B: 201}, {P: 200, B: 201}, {P: 200, B: 0}}
	for _, n := range ends() {
		if n < 0 || n > 1 {
			out = append(out, api.Face{P: n, B: 1}, api.Face{P: 2, B: n}, api.Face{P: n, B: n})
		}
	}
	return out
}

// jobOf returns a job of a task of l, with the Due that belongs to it; it has begun if it has had ticks.
func jobOf(l tasks, i, at, want, had int) api.Job {
	return api.Job{Task: i, At: at, Due: at + l[i].D, Want: want, Had: had, Began: had > 0}
}

// waiting returns n different jobs of the tasks, none of which has begun.
func waiting(l tasks, n int) jobs {
	var out jobs
	for i := range n {
		out = append(out, jobOf(l, i%len(l), 500-i/len(l), 2, 0))
	}
	return out
}

// filled returns a log of n entries, each of which is another one.
func filled(n int) log {
	out := make(log, n)
	for i := range out {
		out[i] = api.Entry{At: i, Kind: i % 9, Task: i % 11}
	}
	return out
}

// fresh returns a state with tasks, which have not released anything, and some of which are leaving.
func fresh(l tasks, leaves ...int) state {
	s := state{Tasks: l, Leaves: make([]bool, len(l)), Lasts: slices.Repeat([]int{-1}, len(l))}
	for _, i := range leaves {
		s.Leaves[i] = true
	}
	return s
}

// busy returns a state with tasks that have released something, jobs, none of which has begun, and a log.
func busy(l tasks, leaves ...int) state {
	s := fresh(l, leaves...)
	for i := range l {
		s.Lasts[i] = 400 + i
	}
	s.Jobs, s.Log = waiting(l, min(5, 5*len(l))), filled(7)
	return s
}

// same reports whether two states are equal.
func same(a, b state) bool {
	return slices.EqualFunc(a.Tasks, b.Tasks, task.Same) && slices.Equal(a.Leaves, b.Leaves) && slices.Equal(a.Lasts, b.Lasts) && slices.Equal(a.Jobs, b.Jobs) && slices.Equal(a.Log, b.Log)
}

// supplied returns, for each t below n, how many ticks a valid interface provides at least: those of the pattern in which the ticks of the first period are at its beginning, and those of all others at their ends, from the first tick on that is not provided.
func supplied(f api.Face, n int) []int {
	out := make([]int, n)
	for t := 1; t < n; t++ {
		out[t] = out[t-1]
		if at := f.B + t - 1; at >= f.P && at%f.P >= f.P-f.B {
			out[t]++
		}
	}
	return out
}

// needed returns, for each t below n, what valid tasks need: each job counts from its deadline on, and each section while its task is later, and one that uses the resource is not.
func needed(l tasks, n int) []int {
	rise, blocked := make([]int, n), make([]int, n)
	for _, x := range l {
		for at := x.D; at < n; at += x.T {
			rise[at] += x.C
		}
		for _, later := range l {
			for _, s := range later.Secs {
				if task.Uses(x, s.Res) {
					for t := x.D; t < min(n, later.D); t++ {
						blocked[t] = max(blocked[t], s.Len)
					}
				}
			}
		}
	}
	out, sum := make([]int, n), 0
	for t := range n {
		sum += rise[t]
		out[t] = sum + blocked[t]
	}
	return out
}

// modelFit is the document's word for valid tasks and a valid interface: it tries all cycles, and all ticks up to the end.
func modelFit(l tasks, f api.Face) api.Errno {
	behind := 2 * f.P
	for _, x := range l {
		behind = max(behind, x.D)
	}
	cycle := f.P
	for slices.ContainsFunc(l, func(x api.Task) bool { return cycle%x.T != 0 }) && cycle <= 3000 {
		cycle += f.P
	}
	if cycle+behind > 3000 {
		return api.ErrLarge
	}
	given := supplied(f, cycle+behind+1)
	for t, need := range needed(l, cycle+behind+1) {
		if need > given[t] {
			return api.ErrDeny
		}
	}
	return api.OK
}

// modelFace is the document's word.
func modelFace(f api.Face) bool {
	return f.B >= 1 && f.P >= f.B && f.P <= 200
}

// modelRight is the document's word.
func modelRight(s state) bool {
	n := len(s.Tasks)
	return task.All(s.Tasks) && len(s.Leaves) == n && len(s.Lasts) == n && police.Right(s.Tasks, s.Lasts) && job.All(s.Tasks, s.Jobs) && len(s.Log) <= 2000
}

// modelBoot is the document's word.
func modelBoot(p api.Part) (state, api.Errno) {
	if !modelFace(p.Face) || !task.All(p.Tasks) {
		return state{}, api.ErrArg
	}
	if err := modelFit(p.Tasks, p.Face); err != api.OK {
		return state{}, err
	}
	return fresh(p.Tasks), api.OK
}

// modelAdd is the document's word.
func modelAdd(s state, f api.Face, t api.Task) (state, api.Errno) {
	if !modelRight(s) || !modelFace(f) || !task.Right(t) {
		return s, api.ErrArg
	}
	if len(s.Tasks) == 8 {
		return s, api.ErrFull
	}
	for _, j := range s.Jobs {
		if j.Began {
			return s, api.ErrState
		}
	}
	all := slices.Concat(s.Tasks, tasks{t})
	if err := modelFit(all, f); err != api.OK {
		return s, err
	}
	s.Tasks, s.Leaves, s.Lasts = all, slices.Concat(s.Leaves, []bool{false}), slices.Concat(s.Lasts, []int{-1})
	return s, api.OK
}

// modelDrop is the document's word.
func modelDrop(s state, i int) (state, api.Errno) {
	if !modelRight(s) || i < 0 || i >= len(s.Tasks) {
		return s, api.ErrArg
	}
	if s.Leaves[i] {
		return s, api.ErrState
	}
	s.Leaves = slices.Concat(s.Leaves[:i], []bool{true}, s.Leaves[i+1:])
	return s, api.OK
}

// modelChange is the document's word.
func modelChange(s state, f api.Face, i int, t api.Task) (state, api.Errno) {
	if _, err := modelDrop(s, i); err != api.OK {
		return s, err
	}
	after, err := modelAdd(s, f, t)
	if err != api.OK {
		return s, err
	}
	return modelDrop(after, i)
}

// A call is one of those of the layer, with its arguments; Boot takes the tasks of a state.
type call struct {
	name string
	f    api.Face
	i    int
	t    api.Task
}

func boot(f api.Face) call                       { return call{name: "Boot", f: f} }
func add(f api.Face, t api.Task) call            { return call{name: "Add", f: f, t: t} }
func drop(i int) call                            { return call{name: "Drop", i: i} }
func change(f api.Face, i int, t api.Task) call  { return call{name: "Change", f: f, i: i, t: t} }
func both(f api.Face, i int, t api.Task) [2]call { return [2]call{add(f, t), change(f, i, t)} }
func three(f api.Face, i int, t api.Task) [3]call {
	return [3]call{add(f, t), drop(i), change(f, i, t)}
}

// An answer is all that a call returns.
type answer struct {
	s   state
	err api.Errno
}

func (a answer) equal(b answer) bool {
	return same(a.s, b.s) && a.err == b.err
}

// do calls the program.
func (c call) do(s state) (a answer) {
	switch c.name {
	case "Boot":
		a.s, a.err = admit.Boot(api.Part{Face: c.f, Tasks: s.Tasks})
	case "Add":
		a.s, a.err = admit.Add(s, c.f, c.t)
	case "Drop":
		a.s, a.err = admit.Drop(s, c.i)
	default:
		a.s, a.err = admit.Change(s, c.f, c.i, c.t)
	}
	return a
}

// model asks the model.
func (c call) model(s state) (a answer) {
	switch c.name {
	case "Boot":
		a.s, a.err = modelBoot(api.Part{Face: c.f, Tasks: s.Tasks})
	case "Add":
		a.s, a.err = modelAdd(s, c.f, c.t)
	case "Drop":
		a.s, a.err = modelDrop(s, c.i)
	default:
		a.s, a.err = modelChange(s, c.f, c.i, c.t)
	}
	return a
}

// check checks one call for a state, valid or not, and returns what it returns.
func check(t *testing.T, s state, c call) answer {
	t.Helper()
	got, want := c.do(s), c.model(s)
	if !got.equal(want) {
		t.Fatalf("%+v of %+v:\n%+v, want\n%+v", c, s, got, want)
	}
	return got
}

// expect checks one call, and that it returns just this.
func expect(t *testing.T, s state, c call, err api.Errno, want state) state {
	t.Helper()
	got := check(t, s, c)
	if !got.equal(answer{want, err}) {
		t.Fatalf("%+v of %+v:\n%+v, want\n%+v, %d", c, s, got, want, err)
	}
	return got.s
}

// refused checks that a call returns the error, and the state as it is; Boot a state without anything.
func refused(t *testing.T, s state, c call, err api.Errno) {
	t.Helper()
	if c.name != "Boot" {
		expect(t, s, c, err, s)
		return
	}
	if got := check(t, s, c); got.err != err || got.s.Tasks != nil || got.s.Leaves != nil || got.s.Lasts != nil || got.s.Jobs != nil || got.s.Log != nil {
		t.Fatalf("%+v of %+v: %+v, want %d", c, s, got, err)
	}
}

// booted checks that tasks boot, and returns the state.
func booted(t *testing.T, l tasks, f api.Face) state {
	t.Helper()
	return expect(t, state{Tasks: l}, boot(f), api.OK, fresh(l))
}

// added checks that a task is added, and all that changes.
func added(t *testing.T, s state, f api.Face, x api.Task) state {
	t.Helper()
	return expect(t, s, add(f, x), api.OK, joined(s, x))
}

// joined returns the state with the task behind all others, which never released a job.
func joined(s state, x api.Task) state {
	s.Tasks, s.Leaves, s.Lasts = append(slices.Clip(s.Tasks), x), append(slices.Clip(s.Leaves), false), append(slices.Clip(s.Lasts), -1)
	return s
}

// dropped checks that a task is leaving then, and that nothing else changes.
func dropped(t *testing.T, s state, i int) state {
	t.Helper()
	return expect(t, s, drop(i), api.OK, leaving(s, i))
}

// leaving returns the state with task i leaving.
func leaving(s state, i int) state {
	s.Leaves = slices.Clone(s.Leaves)
	s.Leaves[i] = true
	return s
}

// changed checks that a task is added, and another one is leaving then.
func changed(t *testing.T, s state, f api.Face, i int, x api.Task) state {
	t.Helper()
	return expect(t, s, change(f, i, x), api.OK, leaving(joined(s, x), i))
}

// P20.1: Boot of no tasks, of any number of them up to MaxTasks, and of one more.
func TestBoot(t *testing.T) {
	for n := range api.MaxTasks + 1 {
		s := booted(t, light()[:n], half)
		if again, err := part.New(light()[:n]); err != api.OK || !same(s, again) || !part.Right(s) {
			t.Errorf("Boot of %d tasks: %+v, and New: %+v", n, s, again)
		}
	}
	small := with(1, 200, 200)
	booted(t, slices.Repeat(tasks{small}, api.MaxTasks), every)
	for _, n := range []int{api.MaxTasks + 1, api.MaxTasks + 2, 3 * api.MaxTasks} {
		refused(t, state{Tasks: slices.Repeat(tasks{small}, n)}, boot(every), api.ErrArg)
	}
	refused(t, state{Tasks: append(light(), small)}, boot(half), api.ErrArg)
}

// P20.1: interfaces that are just valid, and those that are not, with tasks and without.
func TestBootFaces(t *testing.T) {
	for _, f := range []api.Face{every, half, {P: 2, B: 2}, {P: 200, B: 1}, {P: 200, B: 199}, {P: 200, B: 200}} {
		booted(t, nil, f)
		booted(t, tasks{}, f)
		if f.B > 1 {
			booted(t, plain(1, 200, 200), f)
		}
	}
	for _, f := range wrongFaces() {
		for _, l := range []tasks{nil, light()[:1], light(), wrongTasks()[:1], slices.Repeat(light()[:1], 9), plain(1, 197, 197, 1, 199, 199), plain(9, 9, 9, 9, 9, 9)} {
			refused(t, state{Tasks: l}, boot(f), api.ErrArg)
		}
	}
}

// P20.1: tasks that are just valid, and such as are not, alone and in all places of others.
func TestBootTasks(t *testing.T) {
	for _, x := range justValid() {
		booted(t, tasks{x}, every)
	}
	for _, bad := range wrongTasks() {
		for n := range api.MaxTasks {
			for i := range n + 1 {
				refused(t, state{Tasks: slices.Insert(light()[:n], i, bad)}, boot(half), api.ErrArg)
			}
		}
	}
}

// An edge is tasks and an interface, which they just fit, or just don't, or for which the end is just MaxBound, or just above it.
type edge struct {
	name string
	l    tasks
	f    api.Face
	err  api.Errno
}

// eight returns eight equal tasks without sections.
func eight(c, d, t int) tasks {
	return slices.Repeat(plain(c, d, t), 8)
}

// edges returns such tasks; those of each edge are at least two.
func edges() []edge {
	return []edge{
		{"demand, eight tasks that fit", eight(1, 8, 8), every, api.OK},
		{"demand, eight tasks, D too small by one", eight(1, 7, 8), every, api.ErrDeny},
		{"demand, eight tasks, C too large by one", append(eight(1, 8, 8)[:7], with(2, 8, 8)), every, api.ErrDeny},
		{"demand, all ticks", plain(100, 200, 200, 100, 200, 200), every, api.OK},
		{"demand, a tick too many", plain(100, 200, 200, 101, 200, 200), every, api.ErrDeny},
		{"all ticks are those of one", plain(1, 1, 1, 1, 200, 200), every, api.ErrDeny},
		{"only the sum over a cycle is too large", plain(1, 2, 2, 1, 3, 3, 1, 5, 5), every, api.ErrDeny},
		{"a later deadline, which just fits", plain(2, 2, 4, 2, 6, 12), api.Face{P: 6, B: 6}, api.OK},
		{"a later deadline, which just does not fit", plain(2, 2, 4, 3, 6, 12), api.Face{P: 6, B: 6}, api.ErrDeny},
		{"the example, of which another one is denied", plain(1, 4, 4, 1, 4, 4), half, api.ErrDeny},
		{"the example, beside a rare one", plain(1, 4, 4, 1, 12, 12), half, api.OK},
		{"the supply, just enough for both", plain(1, 6, 6, 2, 6, 6), half, api.ErrDeny},
		{"the supply, a tick more of D", plain(1, 7, 8, 2, 7, 8), half, api.OK},
		{"the supply, B just enough", plain(97, 200, 200, 101, 200, 200), api.Face{P: 200, B: 199}, api.OK},
		{"the supply, B too small by one", plain(97, 200, 200, 101, 200, 200), api.Face{P: 200, B: 198}, api.ErrDeny},
		{"blocking, just as long as there is room", tasks{with(1, 4, 8, 0, 0, 1), with(5, 16, 16, 0, 0, 3)}, every, api.OK},
		{"blocking, longer by one", tasks{with(1, 4, 8, 0, 0, 1), with(5, 16, 16, 0, 0, 4)}, every, api.ErrDeny},
		{"blocking, the same, the other way round", tasks{with(5, 16, 16, 0, 0, 4), with(1, 4, 8, 0, 0, 1)}, every, api.ErrDeny},
		{"blocking, of a resource that only one uses", tasks{with(1, 4, 8, 1, 0, 1), with(5, 16, 16, 0, 0, 4)}, every, api.OK},
		{"blocking, by the third", tasks{with(1, 4, 8), with(1, 5, 8, 0, 0, 1), with(5, 16, 16, 0, 0, 4)}, every, api.ErrDeny},
		{"the end, 2900 and a D of 100", plain(1, 100, 100, 1, 100, 145), every, api.OK},
		{"the end, 2900 and a D of 101", plain(1, 100, 100, 1, 101, 145), every, api.ErrLarge},
		{"the end, 2900 and a D of 101, the other way round", plain(1, 101, 145, 1, 100, 100), every, api.ErrLarge},
		{"the end, 2996 and twice a P of 2", plain(1, 4, 28, 1, 4, 107), api.Face{P: 2, B: 2}, api.OK},
		{"the end, 2996 and a D of 5", plain(1, 4, 28, 1, 5, 107), api.Face{P: 2, B: 2}, api.ErrLarge},
		{"the end, 2996 and twice a P of 4", plain(1, 4, 28, 1, 4, 107), api.Face{P: 4, B: 4}, api.ErrLarge},
		{"the end, 2600 and twice a P of 200", plain(1, 13, 13, 1, 40, 40), api.Face{P: 200, B: 200}, api.OK},
		{"the end, 2800 and twice a P of 200", plain(1, 112, 112, 1, 40, 40), api.Face{P: 200, B: 200}, api.ErrLarge},
		{"the end, two primes", plain(1, 199, 199, 1, 197, 197), every, api.ErrLarge},
		{"the end, above MaxNum", plain(1, 199, 199, 1, 197, 197, 1, 193, 193, 1, 191, 191, 1, 181, 181, 1, 179, 179, 1, 173, 173, 1, 167, 167), api.Face{P: 200, B: 200}, api.ErrLarge},
		{"the end too large, and the tasks too much", plain(199, 199, 199, 197, 197, 197), every, api.ErrLarge},
		{"the end just not too large, and the tasks too much", plain(60, 100, 100, 60, 100, 145), every, api.ErrDeny},
	}
}

// P20.1 to P20.3: tasks that just fit, and that just don't, and those for which the end is just at its limit, and just above it: by Boot, with each of them added to the others, and with one in its place that is leaving.
func TestEdges(t *testing.T) {
	for _, x := range edges() {
		t.Run(x.name, func(t *testing.T) {
			if x.err == api.OK {
				booted(t, x.l, x.f)
			} else {
				refused(t, state{Tasks: x.l}, boot(x.f), x.err)
			}
			for i := range x.l {
				rest := slices.Delete(slices.Clone(x.l), i, i+1)
				for _, s := range []state{fresh(rest), busy(rest), busy(rest, 0), busy(rest, len(rest)-1)} {
					if x.err == api.OK {
						added(t, s, x.f, x.l[i])
					} else {
						refused(t, s, add(x.f, x.l[i]), x.err)
						refused(t, leaving(s, 0), add(x.f, x.l[i]), x.err)
					}
				}
				for k := range rest {
					if s := busy(rest); x.err == api.OK {
						changed(t, s, x.f, k, x.l[i])
					} else {
						refused(t, s, change(x.f, k, x.l[i]), x.err)
					}
				}
			}
		})
	}
}

// P20.2: Add of each task to any number of others, with and without jobs, and with flags, releases and entries, which all stay; with MaxTasks it is ErrFull.
func TestAdd(t *testing.T) {
	for n := range api.MaxTasks + 1 {
		for _, x := range append(light(), plain(1, 24, 24)...) {
			for _, s := range []state{fresh(light()[:n]), busy(light()[:n])} {
				if n == api.MaxTasks {
					refused(t, s, add(half, x), api.ErrFull)
					continue
				}
				if _, err := modelAdd(s, half, x); err != api.OK { // twice the same may be too much
					refused(t, s, add(half, x), api.ErrDeny)
					continue
				}
				added(t, s, half, x)
			}
		}
		if n < api.MaxTasks {
			added(t, busy(light()[:n]), half, light()[n])
		}
	}
}

// P20.2: tasks are added one after the other, up to MaxTasks; the state is the one of Boot.
func TestAddAll(t *testing.T) {
	s := booted(t, nil, half)
	for _, x := range light() {
		s = added(t, s, half, x)
	}
	if !same(s, booted(t, light(), half)) || !part.Right(s) {
		t.Errorf("after Add of all: %+v", s)
	}
	for _, x := range append(light(), plain(200, 200, 200, 1, 197, 197)...) {
		refused(t, s, add(half, x), api.ErrFull)
		refused(t, s, change(half, 0, x), api.ErrFull)
	}
}

// P20.2, P20.3: a task that equals one that is there is another one; of each there may be as many as fit.
func TestAddOneThatIsThere(t *testing.T) {
	for _, x := range (tasks{with(1, 10, 10), with(2, 20, 20, 0, 0, 2, 1, 1, 1), with(1, 7, 100), with(1, 5, 5)}) {
		s := booted(t, tasks{x}, every)
		for len(s.Tasks) < min(api.MaxTasks, x.D/x.C) {
			s = added(t, s, every, x)
		}
		if len(s.Tasks) < api.MaxTasks {
			refused(t, s, add(every, x), api.ErrDeny)
		}
		s = changed(t, booted(t, tasks{x}, every), every, 0, x)
		if !slices.Equal(s.Leaves, []bool{true, false}) || !task.Same(s.Tasks[0], s.Tasks[1]) {
			t.Errorf("Change to the same: %+v", s)
		}
	}
}

// P20.2, P20.3: interfaces and tasks that are not valid, with any number of tasks, also where there is no room, and a job has begun.
func TestArgumentsThatAreNotValid(t *testing.T) {
	for _, l := range []tasks{nil, light()[:1], light()[:5], light()} {
		s := busy(l)
		started := s
		if len(l) > 0 {
			started.Jobs = append(jobs{jobOf(l, 0, 3, 2, 1)}, s.Jobs...)
		}
		for _, y := range []state{s, started} {
			for _, f := range wrongFaces() {
				refused(t, y, add(f, light()[1]), api.ErrArg)
				refused(t, y, change(f, 0, light()[1]), api.ErrArg)
			}
			for _, bad := range wrongTasks() {
				refused(t, y, add(half, bad), api.ErrArg)
				refused(t, y, change(half, 0, bad), api.ErrArg)
			}
		}
	}
	for _, x := range justValid() {
		added(t, fresh(nil), every, x)
		if x.C < x.D {
			added(t, fresh(plain(1, 200, 200)), every, x)
		}
	}
	for _, f := range []api.Face{every, half, {P: 200, B: 199}, {P: 200, B: 200}} {
		added(t, fresh(nil), f, with(1, 200, 200))
		changed(t, fresh(plain(1, 200, 200)), f, 0, with(1, 200, 200))
	}
}

// wrongStates returns states that are not valid, in each way in which a state can be so; a half of them can't be changed for other reasons, too.
func wrongStates() []state {
	var out []state
	for _, s := range []state{busy(light()[:3]), busy(light(), 0)} {
		n := len(s.Tasks)
		began := jobOf(s.Tasks, 0, 3, 2, 1)
		for _, bad := range wrongTasks() {
			first, last := s, s
			first.Tasks, last.Tasks = slices.Clone(s.Tasks), slices.Clone(s.Tasks)
			first.Tasks[0], last.Tasks[n-1] = bad, bad
			out = append(out, first, last, fresh(tasks{bad}))
		}
		for _, k := range []int{0, n - 1, n + 1, 2 * n} {
			flags, lasts := s, s
			flags.Leaves, lasts.Lasts = make([]bool, k), make([]int, k)
			out = append(out, flags, lasts)
		}
		for _, last := range []int{-2, api.MaxNum + 1, math.MinInt, math.MaxInt} {
			for _, i := range []int{0, n - 1} {
				x := s
				x.Lasts = slices.Clone(s.Lasts)
				x.Lasts[i] = last
				out = append(out, x)
			}
		}
		for _, j := range []api.Job{
			{}, {Task: -1, Due: 20, Want: 1}, {Task: n, Due: 20, Want: 1}, {Task: 0, Due: 21, Want: 1}, {Task: 0, At: -1, Due: 19, Want: 1}, {Task: 0, At: lastTick + 1, Due: lastTick + 21, Want: 1},
			{Task: 0, Due: 20}, {Task: 0, Due: 20, Want: 201}, {Task: 0, Due: 20, Want: 9, Had: 2, Began: true}, {Task: 0, Due: 20, Want: 1, Had: 1, Began: true}, {Task: 0, Due: 20, Want: 2, Had: 1}, {Task: 0, Due: 20, Want: 2, Had: -1, Began: true},
			s.Jobs[1], {Task: math.MaxInt, At: math.MaxInt, Due: math.MaxInt, Want: math.MaxInt, Had: math.MaxInt, Began: true},
		} {
			alone, first, last := s, s, s
			alone.Jobs, first.Jobs, last.Jobs = jobs{j, j}, append(jobs{j}, s.Jobs...), append(slices.Clip(s.Jobs), began, j)
			out = append(out, alone, first, last)
		}
		for _, k := range []int{1, 2, 99} {
			many, long := s, s
			many.Jobs, long.Log = waiting(s.Tasks, api.MaxJobs+k), filled(api.MaxLog+k)
			out = append(out, many, long)
		}
	}
	return append(out, fresh(append(light(), light()[0])), fresh(slices.Repeat(light(), 4)), state{Tasks: light()}, state{Leaves: []bool{false}}, state{Lasts: []int{-1}}, state{Jobs: jobs{{Due: 20, Want: 1}}})
}

// P20.2, P20.3: states that are not valid; whatever else may be wrong, it is ErrArg.
func TestStatesThatAreNotValid(t *testing.T) {
	for _, s := range wrongStates() {
		if part.Right(s) {
			t.Fatalf("valid: %+v", s)
		}
		for _, i := range []int{0, 1, len(s.Tasks) - 1, -1, len(s.Tasks)} {
			for _, x := range []api.Task{with(1, 24, 24), with(24, 24, 24), with(1, 197, 197), {}} {
				for _, c := range three(half, i, x) {
					refused(t, s, c, api.ErrArg)
				}
				refused(t, s, change(api.Face{}, i, x), api.ErrArg)
			}
		}
	}
	for _, s := range []state{{}, fresh(nil), {Log: filled(api.MaxLog)}, busy(light()[:3]), busy(light()[:7], 0, 6)} {
		added(t, s, half, with(1, 24, 24))
	}
}

// begun returns the jobs with one that has begun: it has had a tick, or none.
func begun(l jobs, i, had int) jobs {
	l = slices.Clone(l)
	l[i].Began, l[i].Had = true, had
	return l
}

// P20.2, P20.3: no jobs, jobs none of which has begun, and jobs of which one has begun, at each place, up to MaxJobs; also of a task that is leaving. Drop is as before.
func TestJobsThatHaveBegun(t *testing.T) {
	l := tasks{with(2, 20, 24, 0, 0, 2), with(3, 48, 48), with(2, 24, 48)}
	x := with(1, 24, 24)
	for _, leaves := range [][]int{nil, {0}, {1, 2}, {2, 1, 0}} {
		for _, n := range []int{0, 1, 2, 3, 7, api.MaxJobs - 1, api.MaxJobs} {
			s := fresh(l, leaves...)
			s.Jobs = waiting(l, n)
			free := slices.Index(s.Leaves, false)
			added(t, s, half, x)
			if free >= 0 {
				changed(t, s, half, free, x)
			}
			for i := range n {
				for had := range 2 {
					y := s
					y.Jobs = begun(s.Jobs, i, had)
					refused(t, y, add(half, x), api.ErrState)
					refused(t, y, change(half, 0, x), api.ErrState)
					if free >= 0 {
						refused(t, y, change(half, free, x), api.ErrState)
						dropped(t, y, free)
					}
				}
			}
			if n > 1 {
				s.Jobs = begun(begun(s.Jobs, 0, 1), n-1, 0)
				refused(t, s, add(half, x), api.ErrState)
				for i := range s.Jobs {
					s.Jobs[i].Began = true
				}
				refused(t, s, add(half, x), api.ErrState)
			}
		}
	}
}

// P20.2: a job that has begun, in a run: there is no Add until it is finished, and then there is, with other jobs waiting.
func TestAddAfterAJob(t *testing.T) {
	s := booted(t, plain(2, 8, 16, 3, 16, 16), every)
	x := with(1, 16, 16)
	s, _ = part.Release(s, 0, 2, 0)
	s, _ = part.Release(s, 1, 3, 0)
	added(t, s, every, x)
	for now, begun := range []bool{true, false, true, true, false, false} {
		s, _, _ = part.Tick(s, true, now)
		if begun {
			refused(t, s, add(every, x), api.ErrState)
			refused(t, s, change(every, 1, x), api.ErrState)
			continue
		}
		added(t, s, every, x)
		changed(t, s, every, 1, x)
	}
}

// P20.2, P20.3: tasks that are leaving count as all others, whichever they are: all of them, and none.
func TestTasksThatAreLeaving(t *testing.T) {
	l := tasks{with(1, 8, 8), with(2, 16, 16, 0, 0, 1), with(3, 16, 32, 1, 0, 2)}
	room, tooMuch := with(21, 32, 32), with(22, 32, 32)
	for set := range 1 << len(l) {
		for _, s := range []state{fresh(l), busy(l)} {
			for i := range l {
				s.Leaves[i] = set>>i&1 == 1
			}
			added(t, s, every, room)
			refused(t, s, add(every, tooMuch), api.ErrDeny)
			refused(t, s, add(every, with(1, 197, 197)), api.ErrLarge)
			for i, gone := range s.Leaves {
				if gone {
					refused(t, s, change(every, i, room), api.ErrState)
					continue
				}
				changed(t, s, every, i, room)
				refused(t, s, change(every, i, tooMuch), api.ErrDeny)
			}
		}
	}
	full := fresh(light(), 0, 1, 2, 3, 4, 5, 6, 7)
	refused(t, full, add(half, with(1, 24, 24)), api.ErrFull)
}

// P20.2: what is leaving counts until it is gone, which takes as long as there are jobs, of whichever task; what was too much, too large, or without room then has a place.
func TestUntilTheyAreGone(t *testing.T) {
	for _, x := range []struct {
		l   tasks
		t   api.Task
		err api.Errno
	}{
		{plain(8, 16, 16, 1, 16, 16), with(8, 16, 16), api.ErrDeny},
		{plain(1, 197, 197, 1, 16, 16), with(1, 24, 24), api.ErrLarge},
		{append(plain(1, 16, 16, 1, 16, 16), eight(1, 32, 32)[:6]...), with(1, 32, 32), api.ErrFull},
	} {
		s, _ := part.New(x.l)
		s, _ = part.Release(s, 1, 1, 0)
		refused(t, s, add(every, x.t), x.err)
		s = dropped(t, s, 0)
		refused(t, s, add(every, x.t), x.err)
		for now := range 3 {
			s, _, _ = part.Tick(s, false, now)
			refused(t, s, add(every, x.t), x.err)
		}
		s, _, _ = part.Tick(s, true, 3)
		if len(s.Tasks) != len(x.l)-1 {
			t.Fatalf("not gone: %+v", s)
		}
		added(t, s, every, x.t)
	}
}

// P20.3: after a Change the old one counts with the new one until it is gone; then there is room again, and the number of the new one is one less.
func TestAfterAChange(t *testing.T) {
	s := booted(t, plain(4, 16, 16, 4, 16, 16), every)
	x, y := with(5, 16, 16), with(4, 16, 16)
	s, _ = part.Release(s, 1, 2, 0)
	s = changed(t, s, every, 0, x)
	refused(t, s, add(every, y), api.ErrDeny)
	refused(t, s, change(every, 1, y), api.ErrDeny)
	refused(t, s, change(every, 0, with(1, 16, 16)), api.ErrState)
	refused(t, s, drop(0), api.ErrState)
	s, _, _ = part.Tick(s, true, 0)
	refused(t, s, add(every, y), api.ErrState)
	s, _, _ = part.Tick(s, true, 1)
	if len(s.Tasks) != 2 || !task.Same(s.Tasks[1], x) || slices.Contains(s.Leaves, true) {
		t.Fatalf("after the Change: %+v", s)
	}
	added(t, s, every, y)
	s = changed(t, s, every, 1, y)
	refused(t, s, add(every, y), api.ErrDeny)
}

// P20.2, P20.3: the numbers of tasks: -1, 0, the last one, one more, and the ends of int, for any number of tasks.
func TestNumbersOfTasks(t *testing.T) {
	x := with(1, 24, 24)
	for n := range api.MaxTasks + 1 {
		for _, i := range append(ends(), 2, n-1, n, n+1, api.MaxTasks, -api.MaxTasks) {
			for _, s := range []state{fresh(light()[:n]), busy(light()[:n])} {
				if i < 0 || i >= n {
					refused(t, s, drop(i), api.ErrArg)
					refused(t, s, change(half, i, x), api.ErrArg)
					refused(t, s, change(api.Face{}, i, api.Task{}), api.ErrArg)
					continue
				}
				gone := dropped(t, s, i)
				if again, err := part.Leave(s, i); err != api.OK || !same(gone, again) {
					t.Errorf("Drop of %d of %d: %+v, and Leave: %+v", i, n, gone, again)
				}
				refused(t, gone, drop(i), api.ErrState)
				if n == api.MaxTasks {
					refused(t, s, change(half, i, x), api.ErrFull)
				} else {
					changed(t, s, half, i, x)
				}
			}
		}
	}
}

// P20.3: Change of a task that is leaving is ErrState, whatever else is wrong; of another one it is the error of Add.
func TestChange(t *testing.T) {
	few, full := busy(light()[:4], 1), busy(light(), 1)
	started, fullStarted := few, full
	started.Jobs, fullStarted.Jobs = begun(few.Jobs, 0, 1), begun(full.Jobs, 0, 1)
	good, bad, much, large := with(1, 24, 24), with(1, 25, 24), with(12, 24, 24), with(1, 197, 197)
	for _, s := range []state{few, full, started, fullStarted} {
		for _, x := range []api.Task{good, bad, much, large} {
			for _, f := range []api.Face{half, {}, {P: 199, B: 199}} {
				refused(t, s, change(f, 1, x), api.ErrState)
			}
		}
	}
	for _, i := range []int{0, 2, 3} {
		changed(t, few, half, i, good)
		for _, x := range []struct {
			s   state
			f   api.Face
			t   api.Task
			err api.Errno
		}{
			{few, half, bad, api.ErrArg}, {few, half, much, api.ErrDeny}, {few, half, large, api.ErrLarge}, {few, api.Face{}, good, api.ErrArg}, {few, api.Face{P: 199, B: 199}, good, api.ErrLarge},
			{full, half, good, api.ErrFull}, {full, half, much, api.ErrFull}, {full, half, large, api.ErrFull}, {full, half, bad, api.ErrArg}, {full, api.Face{}, good, api.ErrArg},
			{started, half, good, api.ErrState}, {started, half, much, api.ErrState}, {started, half, large, api.ErrState}, {started, half, bad, api.ErrArg},
			{fullStarted, half, good, api.ErrFull}, {fullStarted, half, bad, api.ErrArg},
		} {
			refused(t, x.s, change(x.f, i, x.t), x.err)
		}
	}
	// A smaller one in the place of a task is denied where both together are too much.
	s := booted(t, plain(1, 4, 4), half)
	refused(t, s, change(half, 0, with(1, 4, 4)), api.ErrDeny)
	refused(t, s, change(half, 0, with(1, 4, 200)), api.ErrDeny)
	changed(t, s, half, 0, with(1, 12, 12))
}

// P20.2, P20.3: a log that is empty, or has any number of entries up to MaxLog, stays as it is, and does not matter.
func TestLogs(t *testing.T) {
	x := with(1, 24, 24)
	for _, n := range []int{0, 1, api.MaxLog - 1, api.MaxLog} {
		s := busy(light()[:4], 2)
		s.Log = filled(n)
		for _, got := range []state{added(t, s, half, x), dropped(t, s, 0), changed(t, s, half, 0, x)} {
			if !slices.Equal(got.Log, filled(n)) {
				t.Errorf("a log of %d entries has changed", n)
			}
		}
		refused(t, s, add(half, with(12, 24, 24)), api.ErrDeny)
		refused(t, s, add(half, with(1, 197, 197)), api.ErrLarge)
		refused(t, s, change(half, 2, x), api.ErrState)
		refused(t, s, drop(2), api.ErrState)
		s.Jobs = begun(s.Jobs, 3, 0)
		refused(t, s, add(half, x), api.ErrState)
	}
}

// P20.2, P20.3: all choices of what may be wrong together: the error is the one that is named first.
func TestOrderOfErrors(t *testing.T) {
	counts := map[api.Errno]int{}
	for set := range 1 << 8 {
		is := func(bit int) bool { return set>>bit&1 == 1 }
		wrongState, wrongFace, wrongTask, full, started, large, much, gone := is(0), is(1), is(2), is(3), is(4), is(5), is(6), is(7)
		n, f, x := 7, half, with(1, 24, 24)
		if full {
			n = 8
		}
		s := busy(light()[:n])
		if started {
			s.Jobs = begun(s.Jobs, 0, 1)
		}
		if large {
			x.D, x.T = 197, 197
		}
		if much {
			x.C = 20
		}
		if wrongTask {
			x.D = x.T + 1
		}
		if wrongFace {
			f.B = 3
		}
		if wrongState {
			s.Log = filled(api.MaxLog + 1)
		}
		s.Leaves[1] = gone
		err := api.OK
		switch {
		case wrongState || wrongFace || wrongTask:
			err = api.ErrArg
		case full:
			err = api.ErrFull
		case started:
			err = api.ErrState
		case large:
			err = api.ErrLarge
		case much:
			err = api.ErrDeny
		}
		counts[err]++
		wrongCall := func(i int, err api.Errno) {
			if err != api.OK {
				refused(t, s, change(f, i, x), err)
			} else {
				changed(t, s, f, i, x)
			}
		}
		if err != api.OK {
			refused(t, s, add(f, x), err)
		} else {
			added(t, s, f, x)
		}
		for _, i := range []int{-1, n} {
			wrongCall(i, api.ErrArg)
		}
		wrongCall(0, err)
		if gone && !wrongState {
			wrongCall(1, api.ErrState)
		} else {
			wrongCall(1, err)
		}
	}
	for _, err := range []api.Errno{api.OK, api.ErrArg, api.ErrFull, api.ErrState, api.ErrLarge, api.ErrDeny} {
		if counts[err] == 0 {
			t.Errorf("the error %d is not among them", err)
		}
	}
	for _, f := range []api.Face{{}, half} {
		for _, l := range []tasks{plain(1, 197, 197, 1, 199, 199), plain(197, 197, 197, 199, 199, 199), plain(9, 9, 9, 9, 9, 9)} {
			refused(t, state{Tasks: append(l, api.Task{})}, boot(f), api.ErrArg)
			if !modelFace(f) {
				refused(t, state{Tasks: l}, boot(f), api.ErrArg)
			}
		}
	}
}

// The example of the chapter.
func TestExample(t *testing.T) {
	x := with(1, 4, 4)
	s, err := admit.Boot(api.Part{Face: half, Tasks: tasks{x}})
	if err != api.OK || !same(s, fresh(tasks{x})) {
		t.Errorf("Boot: %+v, %d", s, err)
	}
	after, err := admit.Add(s, half, x)
	if err != api.ErrDeny || !same(after, s) {
		t.Errorf("Add: %+v, %d", after, err)
	}
}

// The ninth example of the whole: a task that is leaving counts until its partition has no jobs.
func TestExampleOfLeaving(t *testing.T) {
	x := with(1, 4, 4)
	s := booted(t, tasks{x}, half)
	s, _ = part.Release(s, 0, 1, 0)
	s = dropped(t, s, 0)
	refused(t, s, add(half, x), api.ErrDeny)
	s, _, _ = part.Tick(s, false, 0)
	refused(t, s, add(half, x), api.ErrDeny)
	s, _, _ = part.Tick(s, true, 1)
	added(t, s, half, x)
}
