package part_test

import (
	"math"
	"math/rand"
	"slices"
	"testing"

	"remontoir/api"
	"remontoir/part"
	"remontoir/task"
)

// behind returns a list in new memory, in which some lies behind it, too.
func behind[E any](l []E, more ...E) []E {
	memory := make([]E, 0, len(l)+len(more))
	return append(append(memory, l...), more...)[:len(l)]
}

// whole returns all the memory of a list, also what lies behind it.
func whole[E any](l []E) []E {
	return l[:cap(l)]
}

// overwrite writes another element to all the memory of a list.
func overwrite[E any](l []E, other E) {
	for i := range whole(l) {
		whole(l)[i] = other
	}
}

// copiedTask returns a task whose sections are in memory of their own, with some behind them.
func copiedTask(t api.Task) api.Task {
	t.Secs = behind(t.Secs, api.Sec{Res: 9, At: 9, Len: 9})
	return t
}

// copiedTasks returns tasks in new memory, with some behind them.
func copiedTasks(l tasks) tasks {
	out := behind(l, api.Task{C: 7}, api.Task{D: 7})
	for i := range out {
		out[i] = copiedTask(out[i])
	}
	return out
}

// copied returns a state in new memory, with some behind each of its lists.
func copied(s state) state {
	return state{
		Tasks:  copiedTasks(s.Tasks),
		Leaves: behind(s.Leaves, true, false),
		Lasts:  behind(s.Lasts, -8, -9),
		Jobs:   behind(s.Jobs, api.Job{Due: -5}, api.Job{Due: -6}),
		Log:    behind(s.Log, api.Entry{At: -3}, api.Entry{At: -4}),
	}
}

// sameTask reports whether two tasks are equal, with all the memory behind their sections.
func sameTask(a, b api.Task) bool {
	a.Secs, b.Secs = whole(a.Secs), whole(b.Secs)
	return task.Same(a, b)
}

// sameWhole reports whether two states are equal, with all the memory behind their lists.
func sameWhole(a, b state) bool {
	return slices.EqualFunc(whole(a.Tasks), whole(b.Tasks), sameTask) && slices.Equal(whole(a.Leaves), whole(b.Leaves)) && slices.Equal(whole(a.Lasts), whole(b.Lasts)) && slices.Equal(whole(a.Jobs), whole(b.Jobs)) && slices.Equal(whole(a.Log), whole(b.Log))
}

// A given is what one call is given: a state and the arguments.
type given struct {
	s state
	c call
}

// copied returns the same in new memory.
func (x given) copied() given {
	x.s, x.c.t = copied(x.s), copiedTask(x.c.t)
	return x
}

// cases returns calls with all results that there are: each error, and all that may change.
func cases() []given {
	busy := with(jobs{of(4, 7, 3, 0), of(2, 3, 9, 2), of(1, 30, 1, 0)}, 3, 5)
	busy.Lasts, busy.Log = []int{10, 11, 12, 13, 14, 15, 16, 17}, filled(5)
	last := with(jobs{of(2, 3, 9, 4)}, 0, 2, 7)
	last.Log = filled(api.MaxLog - 2)
	full := with(many(api.MaxJobs), 1)
	full.Log = filled(api.MaxLog)
	few := fresh(some()[:3])
	few.Jobs, few.Leaves[1], few.Log = jobs{of(2, 3, 9, 4), of(0, 5, 2, 1)}, true, filled(2)
	flags, lasts, late := busy, busy, busy
	flags.Leaves, lasts.Lasts, late.Log = make([]bool, 7), make([]int, 9), filled(api.MaxLog+1)
	var out []given
	for _, s := range []state{{}, fresh(some()), fresh(some()[:1]), with(nil, 2), busy, last, full, few, flags, lasts, late, with(wrongJobs()), fresh(wrongLists()[1])} {
		for _, c := range []call{
			release(0, 1, 4), release(0, 2, 16), release(2, 9, 400), release(1, 1, 400), release(3, 1, 400), release(len(s.Tasks)-1, 1, 600), release(-1, 1, 4), release(8, 1, 4), release(0, 0, 4), release(0, 1, lastTick), release(0, 1, lastTick+1),
			tick(true, 0), tick(false, 0), tick(true, 9), tick(true, 10), tick(false, 10), tick(true, 31), tick(false, 1000), tick(true, lastTick+1), tick(true, -1),
			add(some()[0]), add(some()[2]), add(some()[4]), add(wrongTasks()[6]), add(api.Task{}), leave(0), leave(2), leave(len(s.Tasks) - 1), leave(-1), leave(8),
		} {
			out = append(out, given{s, c})
		}
	}
	r := rand.New(rand.NewSource(41))
	for range 300 {
		s := anyState(r, 12)
		out = append(out, given{s, anyCall(r, len(s.Tasks), 12)}, given{broken(r, s), anyCall(r, len(s.Tasks), 12)})
	}
	return out
}

// R3: no call changes its arguments, nor what lies behind them.
func TestArgumentsDoNotChange(t *testing.T) {
	for _, x := range cases() {
		g, before := x.copied(), x.copied()
		check(t, g.s, g.c)
		if !sameWhole(g.s, before.s) || !sameTask(g.c.t, before.c.t) {
			t.Errorf("%+v changed its arguments: %+v to %+v, %+v", x.c, before.s, g.s, g.c.t)
		}
	}
	for _, l := range append(wrongLists(), nil, some(), some()[:3]) {
		g, before := copiedTasks(l), copiedTasks(l)
		part.New(g)
		if !slices.EqualFunc(whole(g), whole(before), sameTask) {
			t.Errorf("New changed its tasks: %v to %v", before, g)
		}
	}
}

// overwriteTasks writes others to all the memory of tasks, and of the sections of those that are there.
func overwriteTasks(l tasks) {
	for _, x := range l {
		overwrite(x.Secs, api.Sec{Res: -7, At: -7, Len: -7})
	}
	overwrite(l, api.Task{C: -77})
}

// changed reports whether a list has changed, so that it may not be shared.
func changed[E comparable](l, before []E) bool {
	return !slices.Equal(l, before)
}

// overwriteChanged writes others to all the memory of the lists that have changed, and to the sections of a task that was added.
func overwriteChanged(s, before state) {
	if len(s.Tasks) != len(before.Tasks) {
		overwriteTasks(s.Tasks[min(len(s.Tasks), len(before.Tasks)):])
		overwrite(s.Tasks, api.Task{C: -77})
	}
	if changed(s.Leaves, before.Leaves) {
		overwrite(s.Leaves, len(s.Leaves)%2 == 0)
	}
	if changed(s.Lasts, before.Lasts) {
		overwrite(s.Lasts, -77)
	}
	if changed(s.Jobs, before.Jobs) {
		overwrite(s.Jobs, api.Job{Due: -77})
	}
	if changed(s.Log, before.Log) {
		overwrite(s.Log, api.Entry{At: -77})
	}
}

// sameTasks reports whether tasks are equal where they may not be shared: the tasks, if their number has changed, and the sections of one that was added.
func sameTasks(got, want, before tasks) bool {
	if len(want) == len(before) {
		return true
	}
	for i, x := range want {
		if i < len(before) && i < len(got) {
			x.Secs = got[i].Secs
		}
		if i >= len(got) || !task.Same(got[i], x) {
			return false
		}
	}
	return len(got) == len(want)
}

// sameChanges reports whether two states are equal in all that has changed since the state before: the rest may be shared.
func sameChanges(got, want, before state) bool {
	return sameTasks(got.Tasks, want.Tasks, before.Tasks) &&
		(!changed(want.Leaves, before.Leaves) || slices.Equal(got.Leaves, want.Leaves)) &&
		(!changed(want.Lasts, before.Lasts) || slices.Equal(got.Lasts, want.Lasts)) &&
		(!changed(want.Jobs, before.Jobs) || slices.Equal(got.Jobs, want.Jobs)) &&
		(!changed(want.Log, before.Log) || slices.Equal(got.Log, want.Log))
}

// R3: what has changed in a result is new memory, spare capacity included: what is written there changes neither arguments nor other results.
func TestResultsAreNewMemory(t *testing.T) {
	for _, x := range cases() {
		g, before := x.copied(), x.copied()
		want, first, second := x.copied().c.do(copied(x.s)), g.c.do(g.s), g.c.do(g.s)
		overwriteChanged(first.s, g.s)
		if !second.equal(want) || !sameWhole(g.s, before.s) || !sameTask(g.c.t, before.c.t) {
			t.Fatalf("a change of a result of %+v is seen elsewhere", x)
		}
		if third := g.c.do(g.s); !third.equal(want) {
			t.Fatalf("a change of a result of %+v changed the next one", x)
		}
		overwriteTasks(g.s.Tasks)
		overwrite(g.s.Leaves, len(g.s.Leaves)%2 == 0)
		overwrite(g.s.Lasts, -78)
		overwrite(g.s.Jobs, api.Job{Due: -78})
		overwrite(g.s.Log, api.Entry{At: -78})
		overwrite(g.c.t.Secs, api.Sec{Res: -78})
		if !sameChanges(second.s, want.s, before.s) {
			t.Fatalf("a change of the arguments %+v is seen in a result: %+v, want %+v", x, second, want)
		}
	}
}

// R3: a new state shares nothing with the tasks, nor do its tasks share anything with one another.
func TestNewIsNewMemory(t *testing.T) {
	secs := []api.Sec{{Res: 0, At: 1, Len: 3}, {Res: 1, At: 2, Len: 1}, {Res: 3, At: 7, Len: 9}}[:2]
	l := tasks{{C: 5, D: 7, T: 9, Secs: secs}, {C: 1, D: 1, T: 1, Secs: secs[:0]}, {C: 6, D: 8, T: 9, Secs: secs}, {C: 9, D: 9, T: 9}}[:3]
	before := copiedTasks(l)
	want, _ := part.New(before)
	first, _ := part.New(l)
	second, _ := part.New(l)
	for i := range first.Tasks {
		overwrite(first.Tasks[i].Secs, api.Sec{Res: -7})
		for k := i + 1; k < len(l); k++ {
			if !task.Same(first.Tasks[k], before[k]) {
				t.Errorf("the tasks %d and %d share their sections", i, k)
			}
		}
	}
	overwrite(first.Tasks, api.Task{C: -7})
	overwrite(first.Leaves, true)
	overwrite(first.Lasts, -7)
	if !slices.EqualFunc(l, before, task.Same) || !same(second, want) || whole(l)[3].C != 9 || whole(secs)[2].Len != 9 {
		t.Errorf("a change of the state is seen in the tasks, or in another state: %v, %+v", l, second)
	}
	overwriteTasks(l)
	if !same(second, want) {
		t.Errorf("a change of the tasks is seen in the state: %+v", second)
	}
}

// R3: calls on a state that others were made on before: what each returned stays as it is, whatever follows.
func TestStatesThatBranch(t *testing.T) {
	r := rand.New(rand.NewSource(42))
	for range 40 {
		first, _ := part.New(some()[:r.Intn(api.MaxTasks+1)])
		all, copies := []state{first}, []state{copied(first)}
		for now := range 300 {
			s := all[max(0, len(all)-1-r.Intn(6))]
			for range 3 {
				got := anyCall(r, len(s.Tasks), now).do(s)
				all, copies = append(all, got.s), append(copies, copied(got.s))
			}
		}
		for n, s := range all {
			if !same(s, copies[n]) {
				t.Fatalf("state %d of %d is not what it was: %+v, %+v", n, len(all), s, copies[n])
			}
		}
	}
}

// R3, R4: no call keeps what it is given: after other calls, and after a change in the same memory, the results are those of new memory.
func TestNothingIsKept(t *testing.T) {
	var m state
	m.Tasks, m.Leaves, m.Lasts, m.Jobs, m.Log = make(tasks, 32), make([]bool, 32), make([]int, 32), make(jobs, 99), make(log, api.MaxLog+9)
	all := cases()
	for n, x := range all {
		want := x.copied().c.do(copied(x.s))
		y := all[(n+1)%len(all)]
		y.c.do(y.s)
		for range 2 {
			s := state{m.Tasks[:copy(m.Tasks, x.s.Tasks)], m.Leaves[:copy(m.Leaves, x.s.Leaves)], m.Lasts[:copy(m.Lasts, x.s.Lasts)], m.Jobs[:copy(m.Jobs, x.s.Jobs)], m.Log[:copy(m.Log, x.s.Log)]}
			if got := x.c.do(s); !got.equal(want) {
				t.Fatalf("%+v: %+v, and before %+v", x, got, want)
			}
		}
	}
}

// R3: a nil list and an empty one are the same.
func TestNoListAndAnEmptyOne(t *testing.T) {
	for _, x := range cases() {
		want := x.c.do(x.s)
		s := state{append(tasks{}, x.s.Tasks...), append([]bool{}, x.s.Leaves...), append([]int{}, x.s.Lasts...), append(jobs{}, x.s.Jobs...), append(log{}, x.s.Log...)}
		for i := range s.Tasks {
			s.Tasks[i].Secs = append([]api.Sec{}, s.Tasks[i].Secs...)
		}
		x.c.t.Secs = append([]api.Sec{}, x.c.t.Secs...)
		if got := x.c.do(s); !got.equal(want) || part.Right(s) != part.Right(x.s) {
			t.Errorf("%+v with empty lists: %+v, and with none %+v", x, got, want)
		}
	}
	for _, l := range []tasks{nil, {}} {
		if s, err := part.New(l); err != api.OK || len(s.Tasks)+len(s.Leaves)+len(s.Lasts)+len(s.Jobs)+len(s.Log) > 0 {
			t.Errorf("New of no tasks: %+v, %d", s, err)
		}
	}
}

// R1: numbers at the ends of int in each place of a state and of the arguments.
func TestAnyNumbers(t *testing.T) {
	for _, a := range ends() {
		for _, b := range ends() {
			for _, c := range ends() {
				x := api.Task{C: a, D: b, T: c, Secs: []api.Sec{{Res: a, At: b, Len: c}, {Res: c, At: a, Len: b}}}
				check(t, fresh(tasks{x}), release(0, a, b))
				check(t, with(nil), add(x))
				for _, j := range (jobs{{Task: a, At: b, Due: c, Want: a, Had: b, Began: true}, {Task: 0, At: a, Due: a + 4, Want: 1}, {Task: 0, At: 3, Due: 7, Want: a, Had: b, Began: true}}) {
					s := with(jobs{of(1, 3, 2, 0), j})
					s.Lasts[0] = b
					s.Log = log{{At: a, Kind: b, Task: c}}
					for _, d := range []call{release(0, 1, c), release(a, b, c), tick(true, c), tick(false, c), leave(a)} {
						check(t, s, d)
					}
				}
			}
		}
	}
}

// R1: lists far beyond the limits.
func TestLongLists(t *testing.T) {
	s := with(many(3))
	for _, long := range []state{
		{Tasks: slices.Repeat(some(), 1<<12), Leaves: s.Leaves, Lasts: s.Lasts},
		fresh(slices.Repeat(some(), 1<<12)),
		{Tasks: s.Tasks, Leaves: make([]bool, 1<<16), Lasts: s.Lasts},
		{Tasks: s.Tasks, Leaves: s.Leaves, Lasts: make([]int, 1<<16)},
		{Tasks: s.Tasks, Leaves: s.Leaves, Lasts: s.Lasts, Jobs: many(1 << 16)},
		{Tasks: s.Tasks, Leaves: s.Leaves, Lasts: s.Lasts, Log: filled(1 << 16)},
		fresh(tasks{{C: 5, D: 7, T: 9, Secs: slices.Repeat([]api.Sec{{Res: 0, At: 0, Len: 1}}, 1<<16)}}),
	} {
		wrong(t, long)
	}
	if _, err := part.New(slices.Repeat(some(), 1<<12)); err != api.ErrArg {
		t.Errorf("New of many tasks: %d", err)
	}
	kept(t, s, add(api.Task{C: 5, D: 7, T: 9, Secs: slices.Repeat([]api.Sec{{Res: 0, At: 0, Len: 1}}, 1<<16)}), api.ErrArg)
	kept(t, s, release(math.MaxInt, math.MaxInt, math.MaxInt), api.ErrArg)
}
