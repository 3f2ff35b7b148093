package admit_test

import (
	"math/rand"
	"slices"
	"testing"

	"remontoir/admit"
	"remontoir/api"
	"remontoir/part"
	"remontoir/task"
)

// behind returns a list in new memory, in which some lies behind it, too.
func behind[E any](l []E, more ...E) []E {
	memory := make([]E, 0, len(l)+len(more))
	return append(append(memory, l...), more...)[:len(l)]
}

// whole returns all the memory of a list, also what lies behind it.
func whole[E any](l []E) []E {
	return l[:cap(l)]
}

// overwrite writes another element to all the memory of a list.
func overwrite[E any](l []E, other E) {
	for i := range whole(l) {
		whole(l)[i] = other
	}
}

// copiedTask returns a task whose sections are in memory of their own, with some behind them.
func copiedTask(t api.Task) api.Task {
	t.Secs = behind(t.Secs, api.Sec{Res: 9, At: 9, Len: 9})
	return t
}

// copied returns a state in new memory, with some behind each of its lists.
func copied(s state) state {
	out := state{
		Tasks:  behind(s.Tasks, api.Task{C: 7}, api.Task{D: 7}),
		Leaves: behind(s.Leaves, true, false),
		Lasts:  behind(s.Lasts, -8, -9),
		Jobs:   behind(s.Jobs, api.Job{Due: -5}, api.Job{Due: -6}),
		Log:    behind(s.Log, api.Entry{At: -3}, api.Entry{At: -4}),
	}
	for i := range out.Tasks {
		out.Tasks[i] = copiedTask(out.Tasks[i])
	}
	return out
}

// sameTask reports whether two tasks are equal, with all the memory behind their sections.
func sameTask(a, b api.Task) bool {
	a.Secs, b.Secs = whole(a.Secs), whole(b.Secs)
	return task.Same(a, b)
}

// sameWhole reports whether two states are equal, with all the memory behind their lists.
func sameWhole(a, b state) bool {
	return slices.EqualFunc(whole(a.Tasks), whole(b.Tasks), sameTask) && slices.Equal(whole(a.Leaves), whole(b.Leaves)) && slices.Equal(whole(a.Lasts), whole(b.Lasts)) && slices.Equal(whole(a.Jobs), whole(b.Jobs)) && slices.Equal(whole(a.Log), whole(b.Log))
}

// A given is what one call is given: a state and the arguments.
type given struct {
	s state
	c call
}

// copied returns the same in new memory.
func (x given) copied() given {
	x.s, x.c.t = copied(x.s), copiedTask(x.c.t)
	return x
}

// cases returns calls with all results that there are: each error, and all that may change.
func cases() []given {
	started := busy(light()[:4], 1)
	started.Jobs = begun(started.Jobs, 2, 0)
	full := busy(light(), 3)
	full.Log = filled(api.MaxLog)
	var out []given
	for _, s := range append(wrongStates()[:9], state{}, fresh(light()), fresh(light()[:7]), busy(light()[:1]), busy(light()[:5], 0, 4), started, full) {
		for _, i := range []int{0, 1, 3, len(s.Tasks) - 1, len(s.Tasks), -1} {
			for _, x := range []api.Task{with(1, 24, 24), with(2, 24, 24, 2, 0, 2, 0, 1, 1), with(12, 24, 24), with(1, 197, 197), {}} {
				for _, c := range three(half, i, x) {
					out = append(out, given{s, c})
				}
			}
		}
		out = append(out, given{s, boot(half)}, given{s, boot(every)}, given{s, boot(api.Face{P: 199, B: 199})}, given{s, boot(api.Face{P: 24, B: 1})}, given{s, boot(api.Face{})}, given{s, add(api.Face{}, light()[0])})
	}
	r := rand.New(rand.NewSource(61))
	for range 600 {
		s := anyState(r)
		out = append(out, given{s, anyCall(r, len(s.Tasks))})
	}
	return out
}

// P20.1 to P20.3: the calls that are looked at for memory have all the results that there are.
func TestCases(t *testing.T) {
	counts := map[string]int{}
	for _, x := range cases() {
		counts[x.c.name+" "+string(rune('0'+check(t, x.s, x.c).err))]++
	}
	for _, x := range []string{"Boot 0", "Boot 1", "Boot 5", "Boot 7", "Add 0", "Add 1", "Add 3", "Add 5", "Add 7", "Add 9", "Drop 0", "Drop 1", "Drop 9", "Change 0", "Change 1", "Change 3", "Change 5", "Change 7", "Change 9"} {
		if counts[x] < 3 {
			t.Errorf("too few of a kind: %v", counts)
		}
	}
}

// R3: no call changes its arguments, nor what lies behind them.
func TestArgumentsDoNotChange(t *testing.T) {
	for _, x := range cases() {
		g, before := x.copied(), x.copied()
		check(t, g.s, g.c)
		if !sameWhole(g.s, before.s) || !sameTask(g.c.t, before.c.t) {
			t.Errorf("%+v changed its arguments: %+v to %+v, %+v", x.c, before.s, g.s, g.c.t)
		}
	}
}

// spoil writes others to all the memory of a state: of the lists that are longer or other than those of the state before, and of the sections of tasks that were added; without a state before, of all.
func spoil(s, before state) {
	if len(s.Tasks) != len(before.Tasks) {
		for _, x := range s.Tasks[len(before.Tasks):] {
			overwrite(x.Secs, api.Sec{Res: -7, At: -7, Len: -7})
		}
		overwrite(s.Tasks, api.Task{C: -77})
	}
	if !slices.Equal(s.Leaves, before.Leaves) {
		for i, gone := range whole(s.Leaves) {
			whole(s.Leaves)[i] = !gone
		}
	}
	if !slices.Equal(s.Lasts, before.Lasts) {
		overwrite(s.Lasts, -77)
	}
	if !slices.Equal(s.Jobs, before.Jobs) {
		overwrite(s.Jobs, api.Job{Due: -77})
	}
	if !slices.Equal(s.Log, before.Log) {
		overwrite(s.Log, api.Entry{At: -77})
	}
}

// sameChanges reports whether two states are equal in all that has changed since the state before: the rest may be shared.
func sameChanges(got, want, before state) bool {
	if len(got.Tasks) != len(want.Tasks) {
		return false
	}
	if n := len(before.Tasks); len(want.Tasks) != n {
		for i, x := range want.Tasks {
			y := got.Tasks[i]
			if x.C != y.C || x.D != y.D || x.T != y.T || i >= n && !task.Same(x, y) {
				return false
			}
		}
	}
	return (slices.Equal(want.Leaves, before.Leaves) || slices.Equal(got.Leaves, want.Leaves)) && (slices.Equal(want.Lasts, before.Lasts) || slices.Equal(got.Lasts, want.Lasts))
}

// R3: what has changed in a result is new memory, spare capacity included: what is written there changes neither arguments nor other results, and what is written to the arguments changes no result.
func TestResultsAreNewMemory(t *testing.T) {
	for _, x := range cases() {
		g, before := x.copied(), x.copied()
		base := g.s
		if g.c.name == "Boot" {
			base = state{}
		}
		want, first, second := x.copied().c.do(copied(x.s)), g.c.do(g.s), g.c.do(g.s)
		if want.err == api.OK {
			spoil(first.s, base)
		}
		if !second.equal(want) || !sameWhole(g.s, before.s) || !sameTask(g.c.t, before.c.t) {
			t.Fatalf("a change of a result of %+v is seen elsewhere", x)
		}
		if third := g.c.do(g.s); !third.equal(want) {
			t.Fatalf("a change of a result of %+v changed the next one", x)
		}
		spoil(g.s, state{})
		overwrite(g.c.t.Secs, api.Sec{Res: -78})
		if want.err == api.OK && !sameChanges(second.s, want.s, state{Tasks: x.s.Tasks[:len(base.Tasks)], Leaves: x.s.Leaves[:len(base.Leaves)], Lasts: x.s.Lasts[:len(base.Lasts)]}) {
			t.Fatalf("a change of the arguments %+v is seen in a result: %+v, want %+v", x, second, want)
		}
	}
}

// R3: a state of Boot shares nothing with the tasks, nor do its tasks share anything with one another.
func TestBootIsNewMemory(t *testing.T) {
	secs := []api.Sec{{Res: 0, At: 1, Len: 3}, {Res: 1, At: 2, Len: 1}, {Res: 3, At: 7, Len: 9}}[:2]
	l := tasks{{C: 5, D: 20, T: 40, Secs: secs}, {C: 1, D: 20, T: 40, Secs: secs[:0]}, {C: 6, D: 20, T: 40, Secs: secs}, {C: 9, D: 9, T: 9}}[:3]
	want, p := copied(fresh(l)), api.Part{Face: every, Tasks: l}
	first, err := admit.Boot(p)
	second, _ := admit.Boot(p)
	if err != api.OK || !same(first, want) {
		t.Fatalf("Boot: %+v, %d", first, err)
	}
	for i := range first.Tasks {
		overwrite(first.Tasks[i].Secs, api.Sec{Res: -7})
		for k := i + 1; k < len(l); k++ {
			if !task.Same(first.Tasks[k], want.Tasks[k]) {
				t.Errorf("the tasks %d and %d share their sections", i, k)
			}
		}
	}
	spoil(first, state{})
	if !same(second, want) || !slices.EqualFunc(l, want.Tasks, task.Same) || whole(l)[3].C != 9 || whole(secs)[2].Len != 9 {
		t.Errorf("a change of the state is seen in the tasks, or in another state: %v, %+v", l, second)
	}
	spoil(state{Tasks: l}, state{})
	if !same(second, want) {
		t.Errorf("a change of the tasks is seen in the state: %+v", second)
	}
}

// R3: calls on a state that others were made on before: what each returned stays as it is, whatever follows.
func TestStatesThatBranch(t *testing.T) {
	r := rand.New(rand.NewSource(62))
	for range 30 {
		l, f := fitting(r)
		first := booted(t, l[:len(l)/2], f)
		all, copies := []state{first}, []state{copied(first)}
		for now := range 200 {
			s := all[max(0, len(all)-1-r.Intn(6))]
			for range 2 {
				c := anyCall(r, len(s.Tasks))
				if c.f = f; c.name == "Boot" {
					c.name = "Add"
				}
				got := c.do(s)
				all, copies = append(all, got.s), append(copies, copied(got.s))
			}
			after, _ := part.Release(s, r.Intn(8), 1, now)
			after, _, _ = part.Tick(after, r.Intn(3) > 0, now)
			all, copies = append(all, after), append(copies, copied(after))
		}
		for n, s := range all {
			if !same(s, copies[n]) {
				t.Fatalf("state %d of %d is not what it was: %+v, %+v", n, len(all), s, copies[n])
			}
		}
	}
}

// R3, R4: no call keeps what it is given: after other calls, and after a change in the same memory, the results are those of new memory.
func TestNothingIsKept(t *testing.T) {
	var m state
	m.Tasks, m.Leaves, m.Lasts, m.Jobs, m.Log = make(tasks, 64), make([]bool, 64), make([]int, 64), make(jobs, 200), make(log, api.MaxLog+99)
	all := cases()
	for n, x := range all {
		want := x.copied().c.do(copied(x.s))
		y := all[(n+1)%len(all)]
		y.c.do(y.s)
		for range 2 {
			s := state{Tasks: m.Tasks[:copy(m.Tasks, x.s.Tasks)], Leaves: m.Leaves[:copy(m.Leaves, x.s.Leaves)], Lasts: m.Lasts[:copy(m.Lasts, x.s.Lasts)], Jobs: m.Jobs[:copy(m.Jobs, x.s.Jobs)], Log: m.Log[:copy(m.Log, x.s.Log)]}
			if got := x.c.do(s); !got.equal(want) {
				t.Fatalf("%+v: %+v, and before %+v", x, got, want)
			}
		}
	}
}

// R3: a nil list and an empty one are the same.
func TestNoListAndAnEmptyOne(t *testing.T) {
	for _, x := range cases() {
		want := x.c.do(x.s)
		s := state{Tasks: append(tasks{}, x.s.Tasks...), Leaves: append([]bool{}, x.s.Leaves...), Lasts: append([]int{}, x.s.Lasts...), Jobs: append(jobs{}, x.s.Jobs...), Log: append(log{}, x.s.Log...)}
		for i := range s.Tasks {
			s.Tasks[i].Secs = append([]api.Sec{}, s.Tasks[i].Secs...)
		}
		x.c.t.Secs = append([]api.Sec{}, x.c.t.Secs...)
		if got := x.c.do(s); !got.equal(want) {
			t.Errorf("%+v with empty lists: %+v, and with none %+v", x, got, want)
		}
	}
}

// R1: numbers at the ends of int in each place of a state and of the arguments.
func TestAnyNumbers(t *testing.T) {
	l := light()[:2]
	for _, a := range ends() {
		for _, b := range ends() {
			for _, c := range ends() {
				x := api.Task{C: a, D: b, T: c, Secs: []api.Sec{{Res: a, At: b, Len: c}, {Res: c, At: a, Len: b}}}
				for _, s := range []state{{}, busy(l), fresh(tasks{x}), {Lasts: []int{a}, Leaves: []bool{true}, Tasks: light()[:1]}} {
					for _, y := range three(half, a, x) {
						check(t, s, y)
					}
					check(t, s, change(api.Face{P: a, B: b}, c, light()[2]))
					check(t, s, add(api.Face{P: b, B: a}, light()[2]))
					check(t, s, boot(api.Face{P: c, B: a}))
				}
				s := busy(l)
				s.Jobs = jobs{{Task: a, At: b, Due: c, Want: a, Had: b, Began: true}}
				s.Log = log{{At: a, Kind: b, Task: c}}
				for _, y := range three(half, 0, light()[2]) {
					check(t, s, y)
				}
				s.Jobs = nil
				added(t, s, half, light()[2])
			}
		}
	}
}

// R1: lists far beyond the limits.
func TestLongLists(t *testing.T) {
	s := busy(light()[:3])
	jobsToo, logToo, flags, lasts := s, s, s, s
	jobsToo.Jobs, logToo.Log, flags.Leaves, lasts.Lasts = waiting(s.Tasks, 1<<16), filled(1<<16), make([]bool, 1<<16), make([]int, 1<<16)
	far := with(5, 7, 9)
	far.Secs = slices.Repeat([]api.Sec{{Res: 0, At: 0, Len: 1}}, 1<<16)
	for _, x := range []state{jobsToo, logToo, flags, lasts, fresh(slices.Repeat(light(), 1<<12)), fresh(tasks{far}), {Tasks: slices.Repeat(light(), 1<<12)}} {
		for _, c := range three(half, 0, light()[0]) {
			refused(t, x, c, api.ErrArg)
		}
	}
	refused(t, state{Tasks: slices.Repeat(light(), 1<<12)}, boot(half), api.ErrArg)
	refused(t, state{Tasks: tasks{far}}, boot(half), api.ErrArg)
	refused(t, s, add(half, far), api.ErrArg)
	refused(t, s, change(half, 0, far), api.ErrArg)
}

// R4: the results are the same again, whatever else is asked before.
func TestDeterminism(t *testing.T) {
	all := cases()
	var before []answer
	for _, x := range all {
		before = append(before, x.c.do(x.s))
	}
	for _, n := range rand.New(rand.NewSource(63)).Perm(len(all)) {
		if got := all[n].c.do(all[n].s); !got.equal(before[n]) {
			t.Fatalf("%+v: %+v, and before %+v", all[n], got, before[n])
		}
	}
}
