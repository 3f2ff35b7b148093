package kernel_test

import (
	"math/rand"
	"slices"
	"testing"

	"remontoir/api"
	"remontoir/kernel"
	"remontoir/part"
	"remontoir/port"
	"remontoir/ring"
	"remontoir/table"
	"remontoir/task"
)

// behind returns a list in new memory, in which some lies behind it, too.
func behind[E any](l []E, more ...E) []E {
	memory := make([]E, 0, len(l)+len(more))
	return append(append(memory, l...), more...)[:len(l)]
}

// whole returns all the memory of a list, also what lies behind it.
func whole[E any](l []E) []E {
	return l[:cap(l)]
}

// overwrite writes another element to all the memory of a list.
func overwrite[E any](l []E, other E) {
	for i := range whole(l) {
		whole(l)[i] = other
	}
}

// copiedTasks returns tasks in new memory, with some behind each of their lists.
func copiedTasks(l tasks) tasks {
	out := behind(l, api.Task{C: 7}, api.Task{D: 7})
	for i := range out {
		out[i].Secs = behind(out[i].Secs, api.Sec{Res: 9, At: 9, Len: 9})
	}
	return out
}

// copiedPart returns the state of a partition in new memory, with some behind each of its lists.
func copiedPart(p part.State) part.State {
	return part.State{
		Tasks:  copiedTasks(p.Tasks),
		Leaves: behind(p.Leaves, true, false),
		Lasts:  behind(p.Lasts, -8, -9),
		Jobs:   behind(p.Jobs, api.Job{Due: -5}, api.Job{Due: -6}),
		Log:    behind(p.Log, api.Entry{At: -3}, api.Entry{At: -4}),
	}
}

// copied returns a state in new memory, with some behind each of its lists.
func copied(s state) state {
	s.Table.Windows = behind(s.Table.Windows, api.Window{Len: -1})
	s.Faces = behind(s.Faces, api.Face{P: -1}, api.Face{B: -1})
	s.Parts = behind(s.Parts, part.State{Lasts: []int{-7}}, part.State{})
	for i := range s.Parts {
		s.Parts[i] = copiedPart(s.Parts[i])
	}
	s.Lines = behind(s.Lines, port.Line{Port: api.Port{Cap: 7}}, port.Line{})
	for i := range s.Lines {
		s.Lines[i].Under.Buf = behind(s.Lines[i].Under.Buf, -8, -9)
		s.Lines[i].Got.Buf = behind(s.Lines[i].Got.Buf, -5, -6, -7)
	}
	return s
}

// copiedConfig returns a system in new memory, with some behind each of its lists.
func copiedConfig(c config) config {
	c.Parts = behind(c.Parts, api.Part{Face: api.Face{P: -1}}, api.Part{})
	for i := range c.Parts {
		c.Parts[i].Tasks = copiedTasks(c.Parts[i].Tasks)
	}
	c.Ports = behind(c.Ports, api.Port{Cap: -1})
	return c
}

// copied returns a call whose arguments are in new memory.
func (c call) copied() call {
	c.c, c.d.T = copiedConfig(c.c), copiedTasks(tasks{c.d.T})[0]
	return c
}

// wholeTasks returns tasks with all the memory behind each of their lists.
func wholeTasks(l tasks) tasks {
	l = slices.Clone(whole(l))
	for i := range l {
		l[i].Secs = whole(l[i].Secs)
	}
	return l
}

// wholeState returns a state with all the memory behind each of its lists.
func wholeState(s state) state {
	s.Table.Windows, s.Faces, s.Parts, s.Lines = whole(s.Table.Windows), whole(s.Faces), slices.Clone(whole(s.Parts)), slices.Clone(whole(s.Lines))
	for i, p := range s.Parts {
		s.Parts[i] = part.State{Tasks: wholeTasks(p.Tasks), Leaves: whole(p.Leaves), Lasts: whole(p.Lasts), Jobs: whole(p.Jobs), Log: whole(p.Log)}
	}
	for i, x := range s.Lines {
		s.Lines[i].Under.Buf, s.Lines[i].Got.Buf = whole(x.Under.Buf), whole(x.Got.Buf)
	}
	return s
}

// sameArguments reports whether the arguments of two calls are equal, with all the memory behind their lists.
func sameArguments(a, b call) bool {
	samePart := func(x, y api.Part) bool {
		return x.Face == y.Face && slices.EqualFunc(wholeTasks(x.Tasks), wholeTasks(y.Tasks), task.Same)
	}
	return slices.EqualFunc(whole(a.c.Parts), whole(b.c.Parts), samePart) && slices.Equal(whole(a.c.Ports), whole(b.c.Ports)) && slices.EqualFunc(wholeTasks(tasks{a.d.T}), wholeTasks(tasks{b.d.T}), task.Same)
}

// A given is what one call is given: a state and the arguments.
type given struct {
	s state
	c call
}

// copied returns the same in new memory.
func (x given) copied() given {
	return given{copied(x.s), x.c.copied()}
}

// cases returns calls with all results that there are: each error, and all that may change.
func cases() []given {
	crowded, _ := kernel.Boot(full())
	free := at(busy(), 24)
	free.Parts[1].Jobs = nil
	wrong := wrongStates()
	states := []state{busy(), at(busy(), 16), at(busy(), 34), at(busy(), lastTime), free, crowded, at(crowded, 500), {Table: table.Table{Frame: 1}}, wrong[0], wrong[7], wrong[len(wrong)/2], wrong[len(wrong)-1]}
	var out []given
	for _, s := range states {
		out = append(out, given{s, tick()})
		for p := -1; p <= 3; p++ {
			for _, i := range []int{-1, 0, 1, 2, 7} {
				for _, x := range []api.Task{with(1, 200, 200, 2, 0, 1), with(2, 24, 48, 2, 0, 2, 0, 1, 1), with(40, 40, 40), {}} {
					for _, d := range append(all(p, i, 2, x), cmd{Part: p, Kind: 7, T: x}) {
						out = append(out, given{s, do(d)})
					}
				}
			}
		}
	}
	for _, c := range []config{{}, some(), full(), bare(4), bare(5), faced(api.Face{P: 16, B: 1}, api.Face{P: 17, B: 1}), faced(api.Face{P: 1, B: 1}, api.Face{P: 1, B: 1}), {Parts: parts{some().Parts[0], {Face: api.Face{P: 8, B: 1}, Tasks: tooMuch()}}}} {
		out = append(out, given{state{}, boot(c)})
	}
	r := rand.New(rand.NewSource(71))
	for range 150 {
		s := anyBusyState(r)
		for range 4 {
			out = append(out, given{s, do(anyCmd(r, s))})
		}
		out = append(out, given{s, tick()}, given{state{}, boot(anySystem(r, r.Intn(5)))})
	}
	return out
}

// P21.1 to P21.3: the calls that are looked at for memory have all the results that there are.
func TestCases(t *testing.T) {
	counts := map[string]int{}
	for _, x := range cases() {
		counts[x.c.name+" "+string(rune('0'+check(t, x.s, x.c).err))]++
	}
	for _, x := range []string{"Boot 0", "Boot 1", "Boot 5", "Boot 7", "Tick 0", "Tick 1", "Do 1", "Do 4", "Release 0", "Release 1", "Release 4", "Release 6", "Release 9", "Send 0", "Send 1", "Send 3", "Send 4", "Send 7", "Read 0", "Read 1", "Read 4", "Read 7", "Add 0", "Add 1", "Add 3", "Add 4", "Add 7", "Add 9", "Drop 0", "Drop 1", "Drop 4", "Drop 9", "Change 0", "Change 1", "Change 3", "Change 4", "Change 7", "Change 9"} {
		if counts[x] < 1 {
			t.Errorf("none of a kind: %v has no %s", counts, x)
		}
	}
}

// R3: no call changes its arguments, nor what lies behind them.
func TestArgumentsDoNotChange(t *testing.T) {
	for _, x := range cases() {
		g, before := x.copied(), x.copied()
		kernel.Right(g.s)
		check(t, g.s, g.c)
		if !same(wholeState(g.s), wholeState(before.s)) || !sameArguments(g.c, before.c) {
			t.Fatalf("%+v changed its arguments: %+v to %+v", before.c, before.s, g.s)
		}
	}
}

// spoilTasks writes others to all the memory of tasks, but not to the sections of the first n of them, which may be shared.
func spoilTasks(l tasks, n int) {
	for _, x := range l[n:] {
		overwrite(x.Secs, api.Sec{Res: -7})
	}
	overwrite(l, api.Task{C: -77})
}

// spoilPart writes others to all the memory of the lists of a partition that differ from those before.
func spoilPart(p, before part.State) {
	if !slices.EqualFunc(p.Tasks, before.Tasks, task.Same) {
		spoilTasks(p.Tasks, min(len(p.Tasks), len(before.Tasks)))
	}
	if !slices.Equal(p.Leaves, before.Leaves) {
		for i, gone := range whole(p.Leaves) {
			whole(p.Leaves)[i] = !gone
		}
	}
	if !slices.Equal(p.Lasts, before.Lasts) {
		overwrite(p.Lasts, -77)
	}
	if !slices.Equal(p.Jobs, before.Jobs) {
		overwrite(p.Jobs, api.Job{Due: -77})
	}
	if !slices.Equal(p.Log, before.Log) {
		overwrite(p.Log, api.Entry{At: -77})
	}
}

// spoilRing writes others to all the memory of a ring whose places differ from those before.
func spoilRing(r, before ring.Ring) {
	if !slices.Equal(r.Buf, before.Buf) {
		overwrite(r.Buf, -77)
	}
}

// spoil writes others to all the memory of the lists of a state that differ from those of the state before.
func spoil(s, before state) {
	for i, p := range s.Parts {
		if i < len(before.Parts) {
			spoilPart(p, before.Parts[i])
		} else {
			spoilPart(p, part.State{})
		}
	}
	for i, x := range s.Lines {
		var y port.Line
		if i < len(before.Lines) {
			y = before.Lines[i]
		}
		spoilRing(x.Under, y.Under)
		spoilRing(x.Got, y.Got)
	}
	// Where an element differs, the list does.
	if !slices.EqualFunc(s.Parts, before.Parts, samePart) {
		overwrite(s.Parts, part.State{Lasts: []int{-77}})
	}
	if !slices.EqualFunc(s.Lines, before.Lines, sameLine) {
		overwrite(s.Lines, port.Line{Port: api.Port{Cap: -77}})
	}
	if !slices.Equal(s.Faces, before.Faces) {
		overwrite(s.Faces, api.Face{P: -77})
	}
	if !slices.Equal(s.Table.Windows, before.Table.Windows) {
		overwrite(s.Table.Windows, api.Window{Len: -77})
	}
}

// R3: what has changed in a result is new memory, spare capacity included: what is written there changes neither arguments nor other results.
func TestResultsAreNewMemory(t *testing.T) {
	changes := map[string]int{}
	for _, x := range cases() {
		g, before := x.copied(), x.copied()
		want, first, second := before.c.do(copied(x.s)), g.c.do(g.s), g.c.do(g.s)
		base := copied(x.s)
		if g.c.name == "Boot" {
			base = state{}
		}
		if !same(first.s, base) {
			changes[x.c.name]++
		}
		// Spoilt lists don't tell any more what has changed, so each part is held against those before at once.
		spoil(first.s, base)
		overwrite(first.ran, -77)
		if !second.equal(want) || !same(wholeState(g.s), wholeState(before.s)) || !sameArguments(g.c, before.c) {
			t.Fatalf("a change of a result of %+v is seen elsewhere", x)
		}
		if third := g.c.do(g.s); !third.equal(want) {
			t.Fatalf("a change of a result of %+v changed the next one", x)
		}
	}
	for _, name := range []string{"Boot", "Tick", "Release", "Send", "Read", "Add", "Drop", "Change"} {
		if changes[name] < 10 {
			t.Errorf("too few of a kind: %v", changes)
		}
	}
}

// R3: a state of Boot shares nothing with the system, nor do two of its lists share anything.
func TestBootIsNewMemory(t *testing.T) {
	secs := []api.Sec{{Res: 0, At: 0, Len: 1}, {Res: 3, At: 7, Len: 9}}[:1]
	l := tasks{{C: 1, D: 100, T: 100, Secs: secs}, {C: 1, D: 200, T: 200, Secs: secs}}
	c := config{
		Parts: parts{{Face: api.Face{P: 4, B: 1}, Tasks: l}, {Face: api.Face{P: 4, B: 1}, Tasks: l}},
		Ports: ports{{From: 0, To: 1, Cap: 2}, {From: 0, To: 1, Cap: 2}},
	}
	want, other := booted(t, copiedConfig(c)), booted(t, c)
	var spots []func(s state)
	for i := range want.Parts {
		for k := range l {
			spots = append(spots, func(s state) { overwrite(s.Parts[i].Tasks[k].Secs, api.Sec{Len: -7}) })
		}
		spots = append(spots,
			func(s state) { overwrite(s.Parts[i].Tasks, api.Task{C: -7}) },
			func(s state) { overwrite(s.Parts[i].Leaves, true) },
			func(s state) { overwrite(s.Parts[i].Lasts, -7) },
			func(s state) { overwrite(s.Lines[i].Under.Buf, -7) },
			func(s state) { overwrite(s.Lines[i].Got.Buf, -7) })
	}
	for n, spot := range spots {
		s, alone := booted(t, c), copied(want)
		spot(s)
		spot(alone) // where no list shares anything
		if same(s, want) || !same(s, alone) {
			t.Errorf("list %d is shared: %+v", n, s)
		}
		spoil(s, state{})
	}
	if !same(other, want) || secs[0].Len != 1 || whole(secs)[1].Len != 9 || l[0].C != 1 || c.Parts[0].Face.P != 4 || c.Ports[1].Cap != 2 {
		t.Errorf("a change of a state is seen elsewhere: %+v, %+v", c, other)
	}
	overwrite(secs, api.Sec{})
	overwrite(l, api.Task{})
	overwrite(c.Parts, api.Part{})
	overwrite(c.Ports, api.Port{})
	if !same(other, want) {
		t.Errorf("a change of the system is seen in its state: %+v", other)
	}
}

// R3: a task that was added shares nothing with the one that was requested.
func TestAddedTasksAreNewMemory(t *testing.T) {
	for _, kind := range []int{kernel.Add, kernel.Change} {
		x := with(2, 150, 200, 0, 0, 2, 1, 1, 1)
		s := booted(t, some())
		got := check(t, s, do(cmd{Part: 0, Kind: kind, I: 1, T: x}))
		overwrite(x.Secs, api.Sec{Len: -7})
		if got.err != api.OK || !task.Same(got.s.Parts[0].Tasks[2], with(2, 150, 200, 0, 0, 2, 1, 1, 1)) {
			t.Errorf("Kind %d: %+v", kind, got)
		}
		overwrite(got.s.Parts[0].Tasks[2].Secs, api.Sec{Len: -8})
		if x.Secs[0].Len != -7 || !same(s, booted(t, some())) {
			t.Errorf("Kind %d: %+v, %+v", kind, x, s)
		}
	}
}

// R3: calls on a state that others were made on before: what each returned stays as it is, whatever follows.
func TestStatesThatBranch(t *testing.T) {
	r := rand.New(rand.NewSource(72))
	for range 30 {
		first := booted(t, anySystem(r, r.Intn(5)))
		every, copies := []state{first}, []state{copied(first)}
		for range 200 {
			s := every[max(0, len(every)-1-r.Intn(6))]
			for range 2 {
				got := do(anyCmd(r, s)).do(s)
				every, copies = append(every, got.s), append(copies, copied(got.s))
			}
			got := tick().do(s)
			every, copies = append(every, got.s), append(copies, copied(got.s))
		}
		for n, s := range every {
			if !same(s, copies[n]) {
				t.Fatalf("state %d of %d is not what it was: %+v, %+v", n, len(every), s, copies[n])
			}
		}
	}
}

// R3, R4: no call keeps what it is given: after other calls, and after a change in the same memory, the results are those of new memory.
func TestNothingIsKept(t *testing.T) {
	every := cases()
	m := copied(busy())
	for n, x := range every {
		want := x.copied().c.do(copied(x.s))
		y := every[(n+1)%len(every)]
		y.c.do(y.s)
		for range 2 {
			s := x.s
			s.Parts = append(whole(m.Parts)[:0], s.Parts...)
			s.Lines = append(whole(m.Lines)[:0], s.Lines...)
			s.Faces = append(whole(m.Faces)[:0], s.Faces...)
			if got := x.c.do(s); !got.equal(want) {
				t.Fatalf("%+v: %+v, and before %+v", x, got, want)
			}
		}
	}
}

// emptied returns a state in which no list is nil.
func emptied(s state) state {
	s.Table.Windows = append([]api.Window{}, s.Table.Windows...)
	s.Faces, s.Parts, s.Lines = append(faces{}, s.Faces...), append([]part.State{}, s.Parts...), append(lines{}, s.Lines...)
	for i, p := range s.Parts {
		q := part.State{Tasks: append(tasks{}, p.Tasks...), Leaves: append([]bool{}, p.Leaves...), Lasts: append([]int{}, p.Lasts...), Jobs: append(jobs{}, p.Jobs...), Log: append(log{}, p.Log...)}
		for k := range q.Tasks {
			q.Tasks[k].Secs = append([]api.Sec{}, q.Tasks[k].Secs...)
		}
		s.Parts[i] = q
	}
	for i := range s.Lines {
		s.Lines[i].Under.Buf, s.Lines[i].Got.Buf = append([]int{}, s.Lines[i].Under.Buf...), append([]int{}, s.Lines[i].Got.Buf...)
	}
	return s
}

// R3: a nil list and an empty one are the same.
func TestNoListAndAnEmptyOne(t *testing.T) {
	every := append(cases(), given{state{}, boot(config{Parts: parts{}, Ports: ports{}})})
	for _, x := range every {
		want := x.c.do(x.s)
		c := x.c
		c.c.Parts, c.c.Ports = append(parts{}, c.c.Parts...), append(ports{}, c.c.Ports...)
		for i := range c.c.Parts {
			c.c.Parts[i].Tasks = append(tasks{}, c.c.Parts[i].Tasks...)
		}
		c.d.T.Secs = append([]api.Sec{}, c.d.T.Secs...)
		if got := c.do(emptied(x.s)); !got.equal(want) {
			t.Errorf("%+v with empty lists: %+v, and with none %+v", x, got, want)
		}
		if kernel.Right(x.s) != kernel.Right(emptied(x.s)) {
			t.Errorf("Right of %+v is another one with empty lists", x.s)
		}
	}
}

// R1: numbers at the ends of int in each place of a state and of the arguments.
func TestAnyNumbers(t *testing.T) {
	numbers := append(ends(), -1, 0, 1, 2, lastTime)
	for _, a := range numbers {
		for _, b := range numbers {
			for _, c := range numbers {
				x := api.Task{C: a, D: b, T: c, Secs: []api.Sec{{Res: a, At: b, Len: c}, {Res: c, At: a, Len: b}}}
				tables, tasksToo, linesToo, plainly := busy(), busy(), busy(), at(busy(), a)
				tables.Table = table.Table{Frame: a, Windows: []api.Window{{Part: b, From: c, Len: a}}}
				tasksToo.Parts[1].Tasks[0] = x
				linesToo.Lines[0].Under.First, linesToo.Lines[0].Under.Many, linesToo.Lines[0].Port.Cap = a, b, c
				plainly.Faces[0], plainly.Parts[0].Log[0] = api.Face{P: b, B: c}, api.Entry{At: a, Kind: b, Task: c}
				for _, s := range []state{tables, tasksToo, linesToo, plainly} {
					for _, y := range []call{tick(), do(cmd{Part: a, Kind: b, I: c, V: a, T: x}), do(cmd{Part: 0, Kind: c, I: a, V: b, T: x}), do(cmd{Part: b % 3, Kind: 1 + (c%6+6)%6, I: a, V: c, T: with(1, 200, 200)})} {
						check(t, s, y)
					}
				}
				check(t, state{}, boot(config{Parts: parts{{Face: api.Face{P: a, B: b}, Tasks: tasks{x}}, {Face: api.Face{P: 2, B: 1}}}, Ports: ports{{From: c, To: a, Cap: b}}}))
				check(t, state{}, boot(config{Parts: parts{{Face: api.Face{P: 2, B: 1}}, {Face: api.Face{P: 2, B: 1}}}, Ports: ports{{From: a, To: b, Cap: c}}}))
			}
		}
	}
}

// R1: lists far beyond the limits.
func TestLongLists(t *testing.T) {
	var list []state
	for range 8 {
		list = append(list, busy())
	}
	list[0].Table.Windows = slices.Repeat(list[0].Table.Windows, 1<<14)
	list[1].Faces, list[1].Parts = slices.Repeat(list[1].Faces, 1<<14), slices.Repeat(list[1].Parts, 1<<14)
	list[2].Lines = slices.Repeat(list[2].Lines, 1<<14)
	list[3].Parts[2].Log = filled(1 << 16)
	list[4].Parts[1].Jobs = slices.Repeat(list[4].Parts[1].Jobs, 1<<16)
	list[5].Parts[0].Tasks = slices.Repeat(list[5].Parts[0].Tasks, 1<<14)
	list[6].Parts[0].Tasks[0].Secs = slices.Repeat([]api.Sec{{Res: 0, At: 0, Len: 1}}, 1<<16)
	list[7].Faces = slices.Repeat(list[7].Faces, 1<<14)
	for _, s := range list {
		unticked(t, s)
		for _, d := range all(0, 0, 1, with(1, 200, 200)) {
			refused(t, s, d, api.ErrArg)
		}
	}
	far := with(5, 200, 200)
	far.Secs = slices.Repeat([]api.Sec{{Res: 0, At: 0, Len: 1}}, 1<<16)
	refused(t, at(busy(), 40), add(0, far), api.ErrArg)
	refused(t, at(busy(), 40), change(0, 0, far), api.ErrArg)
	for _, c := range []config{bare(1 << 14), bare(2, slices.Repeat(ports{{From: 0, To: 1, Cap: 1}}, 1<<14)...), {Parts: parts{{Face: api.Face{P: 2, B: 1}, Tasks: tasks{far}}}}, {Parts: parts{{Face: api.Face{P: 2, B: 1}, Tasks: slices.Repeat(plain(1, 200, 200), 1<<14)}}}} {
		unbooted(t, c, api.ErrArg)
	}
}

// R4: the results are the same again, whatever else is asked before.
func TestDeterminism(t *testing.T) {
	every := cases()
	var before []answer
	for _, x := range every {
		before = append(before, x.c.do(x.s))
	}
	for _, n := range rand.New(rand.NewSource(73)).Perm(len(every)) {
		if got := every[n].c.do(every[n].s); !got.equal(before[n]) {
			t.Fatalf("%+v: %+v, and before %+v", every[n], got, before[n])
		}
	}
}
