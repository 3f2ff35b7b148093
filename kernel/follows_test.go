package kernel_test

import (
	"math/rand"
	"slices"
	"testing"

	"remontoir/api"
	"remontoir/face"
	"remontoir/kernel"
	"remontoir/ring"
	"remontoir/synth"
	"remontoir/task"
)

// apart checks that a request has changed nothing but the partition that requested it, or, if it is a message, nothing but its line (P21.5); with an error, nothing but the log of the partition.
func apart(t *testing.T, s state, d cmd, got answer) {
	t.Helper()
	want := s
	message := d.Kind == kernel.Send || d.Kind == kernel.Read
	switch {
	case message && got.err == api.OK:
		want = lined(s, d.I, got.s.Lines[d.I])
	case !message && got.err == api.OK:
		want = parted(s, d.Part, got.s.Parts[d.Part])
	case d.Kind == kernel.Release && (got.err == api.ErrEarly || got.err == api.ErrFull):
		p := s.Parts[d.Part]
		p.Log = got.s.Parts[d.Part].Log
		want = parted(s, d.Part, p)
	}
	if !same(got.s, want) {
		t.Fatalf("%+v of %+v changed more than it may: %+v", d, s, got.s)
	}
	if got.v != 0 && (d.Kind != kernel.Read || got.err != api.OK) {
		t.Fatalf("%+v of %+v: the number %d", d, s, got.v)
	}
}

// runs checks that in a tick no job ran but that of the partition to which the tick belongs, that none of the others had a tick, and that a job of this one ran, if it had one that was not late (P21.4).
func runs(t *testing.T, s state, got answer, owner int) {
	t.Helper()
	for i, p := range s.Parts {
		inTime := func(j api.Job) bool { return j.Due > s.Now }
		ran := i == owner && slices.ContainsFunc(p.Jobs, inTime)
		if len(got.ran) != len(s.Parts) || (got.ran[i] >= 0) != ran || got.ran[i] < -1 || got.ran[i] >= len(p.Tasks) {
			t.Fatalf("the tick of %d of %+v: %v", owner, s, got.ran)
		}
		var rest jobs
		for _, j := range p.Jobs {
			if inTime(j) {
				rest = append(rest, j)
			}
		}
		if !ran && !slices.Equal(got.s.Parts[i].Jobs, rest) {
			t.Fatalf("the tick of %d of %+v: partition %d is %+v", owner, s, i, got.s.Parts[i])
		}
	}
}

// owner returns the partition to which the current tick belongs, by the layout of the interfaces.
func owner(t *testing.T, s state) int {
	t.Helper()
	ticks, err := synth.Lay(s.Faces)
	if err != api.OK {
		t.Fatalf("Lay of %v: %d", s.Faces, err)
	}
	return ticks[s.Now%len(ticks)]
}

// step checks a call on a state that comes from Boot, and all that follows from it alone.
func step(t *testing.T, s state, c call) answer {
	t.Helper()
	got := check(t, s, c)
	if !kernel.Right(got.s) {
		t.Fatalf("%+v of %+v is not valid: %+v", c, s, got.s)
	}
	if c.name == "Tick" {
		runs(t, s, got, owner(t, s))
	} else {
		apart(t, s, c.d, got)
	}
	return got
}

// P21.2 to P21.5: all lists of up to five calls of two partitions, some of each Kind; one that changes nothing has nothing behind it.
func TestAllShortLists(t *testing.T) {
	x := with(1, 4, 4)
	c := config{
		Parts: parts{{Face: api.Face{P: 2, B: 1}, Tasks: tasks{x}}, {Face: api.Face{P: 4, B: 2}, Tasks: tasks{with(2, 8, 8)}}},
		Ports: ports{{From: 0, To: 1, Cap: 1}},
	}
	options := []call{tick(), do(release(0, 0, 1)), do(release(1, 0, 2)), do(send(0, 0, 5)), do(read(1, 0)), do(add(1, with(1, 40, 40))), do(drop(0, 0)), do(change(1, 0, with(1, 16, 16))), do(send(1, 0, 6))}
	var walk func(s state, n int)
	walk = func(s state, n int) {
		for _, y := range options {
			if got := step(t, s, y); n > 1 && !same(got.s, s) {
				walk(got.s, n-1)
			}
		}
	}
	walk(booted(t, c), 5)
}

// P21.2 to P21.5: all lists of five ticks, with at most one request ahead of each.
func TestAllShortRuns(t *testing.T) {
	c := config{
		Parts: parts{{Face: api.Face{P: 2, B: 1}, Tasks: plain(1, 4, 4)}, {Face: api.Face{P: 2, B: 1}, Tasks: plain(1, 5, 8)}},
		Ports: ports{{From: 0, To: 1, Cap: 1}},
	}
	options := []cmd{release(0, 0, 1), release(1, 0, 2), send(0, 0, 5), read(1, 0), drop(1, 0)}
	var walk func(s state, n int)
	walk = func(s state, n int) {
		if n == 0 {
			return
		}
		walk(step(t, s, tick()).s, n-1)
		for _, d := range options {
			if got := step(t, s, do(d)); !same(got.s, s) {
				walk(step(t, got.s, tick()).s, n-1)
			}
		}
	}
	walk(booted(t, c), 5)
}

// anyTask returns a valid task by chance; the T have small cycles, with a few exceptions.
func anyTask(r *rand.Rand) api.Task {
	for {
		period := []int{8, 12, 16, 24, 48}[r.Intn(5)]
		if r.Intn(30) == 0 {
			period = []int{71, 100, 125, 197, 200}[r.Intn(5)]
		}
		d := period - r.Intn(period/2)
		x := api.Task{C: 1 + r.Intn(max(1, d/6)), D: d, T: period}
		for at := 0; at < x.C && len(x.Secs) < api.MaxSecs && r.Intn(3) > 0; at += r.Intn(3) {
			x.Secs = append(x.Secs, api.Sec{Res: r.Intn(api.MaxRes), At: at, Len: 1 + r.Intn(x.C-at)})
		}
		if task.Right(x) {
			return x
		}
	}
}

// anyPart returns a partition by chance, with an interface that is just sufficient for its tasks.
func anyPart(r *rand.Rand) api.Part {
	for {
		var l tasks
		for range r.Intn(5) {
			l = append(l, anyTask(r))
		}
		if f, err := face.Least(l, []int{2, 3, 4, 6, 8, 12, 24}[r.Intn(7)]); err == api.OK {
			return api.Part{Face: f, Tasks: l}
		}
	}
}

// anySystem returns a system by chance, with so many partitions, and any number of ports if there are two or more; it boots.
func anySystem(r *rand.Rand, n int) config {
	for {
		var c config
		for range n {
			c.Parts = append(c.Parts, anyPart(r))
		}
		for range r.Intn(api.MaxPorts + 1) {
			if n > 1 {
				from := r.Intn(n)
				c.Ports = append(c.Ports, api.Port{From: from, To: (from + 1 + r.Intn(n-1)) % n, Cap: 1 + r.Intn(api.MaxQueue)})
			}
		}
		if _, err := kernel.Boot(c); err == api.OK {
			return c
		}
	}
}

// anyCmd returns a request by chance; most of them are permitted.
func anyCmd(r *rand.Rand, s state) cmd {
	n := len(s.Parts)
	d := cmd{Part: r.Intn(max(1, n)), Kind: []int{1, 1, 1, 1, 2, 2, 2, 3, 3, 3, 4, 4, 5, 6, r.Intn(8)}[r.Intn(15)], I: r.Intn(4), V: 1 + r.Intn(6), T: anyTask(r)}
	switch {
	case r.Intn(30) == 0:
		d.Part = []int{-1, n, n + 1, 4, ends()[r.Intn(9)]}[r.Intn(5)]
	case r.Intn(30) == 0:
		d.I = []int{-1, 4, 8, ends()[r.Intn(9)]}[r.Intn(4)]
	case r.Intn(30) == 0:
		d.V = []int{-1, 0, 200, 201, ends()[r.Intn(9)]}[r.Intn(5)]
	case r.Intn(30) == 0:
		d.T = wrongTasks()[r.Intn(len(wrongTasks()))]
	case len(s.Lines) > 0 && r.Intn(3) > 0:
		d.I = r.Intn(len(s.Lines))
		switch p := s.Lines[d.I].Port; d.Kind {
		case kernel.Send:
			d.Part = p.From
		case kernel.Read:
			d.Part = p.To
		}
	}
	return d
}

// A diary is a line in plain lists.
type diary struct {
	limit      int
	under, got []int
}

// follow reads a call from its results alone, and holds the line against what must be on it.
func (y *diary) follow(t *testing.T, c call, i int, before state, got answer) {
	t.Helper()
	if c.name == "Tick" && before.Now%before.Table.Frame == 0 {
		y.got = slices.Concat(y.got, y.under)
		y.got, y.under = y.got[max(0, len(y.got)-y.limit):], nil
	}
	if got.err == api.OK && c.d.I == i && c.name == "Send" {
		y.under = append(y.under, c.d.V)
	}
	if got.err == api.OK && c.d.I == i && c.name == "Read" {
		if len(y.got) == 0 || y.got[0] != got.v {
			t.Fatalf("%+v of line %d: %d is read, of %v", c, i, got.v, y.got)
		}
		y.got = y.got[1:]
	}
	if x := got.s.Lines[i]; !slices.Equal(ring.List(x.Under), y.under) || !slices.Equal(ring.List(x.Got), y.got) {
		t.Fatalf("after %+v line %d is %+v, want %+v", c, i, x, *y)
	}
}

// P21.1 to P21.5: systems by chance, with requests by chance; messages are followed in diaries, and no job is missed.
func TestRunsByChance(t *testing.T) {
	r := rand.New(rand.NewSource(61))
	counts := map[string]int{}
	for k := range 250 {
		s := booted(t, anySystem(r, k%(api.MaxParts+1)))
		if k%10 == 9 {
			s.Now = lastTime - lastTime%s.Table.Frame - s.Table.Frame*(100/s.Table.Frame)
		}
		var diaries []diary
		for _, x := range s.Lines {
			diaries = append(diaries, diary{limit: x.Port.Cap})
		}
		for range 400 {
			c := tick()
			if r.Intn(3) > 0 {
				c = do(anyCmd(r, s))
			}
			if s.Now > lastTime-3 {
				break
			}
			got := step(t, s, c)
			for i := range diaries {
				diaries[i].follow(t, c, i, s, got)
			}
			counts[c.name+" "+string(rune('0'+got.err))]++
			s = got.s
		}
		for _, p := range s.Parts {
			for _, e := range p.Log {
				counts["kind "+string(rune('0'+e.Kind))]++
			}
		}
	}
	for _, x := range []string{"Tick 0", "Do 4", "Release 0", "Release 1", "Release 4", "Release 6", "Release 9", "Send 0", "Send 3", "Send 4", "Send 7", "Read 0", "Read 4", "Read 7", "Add 0", "Add 1", "Add 7", "Add 9", "Drop 0", "Drop 1", "Drop 9", "Change 0", "Change 1", "Change 7", "Change 9", "kind 1", "kind 2", "kind 4", "kind 5", "kind 7"} {
		if counts[x] < 40 {
			t.Errorf("too few of a kind: %v", counts)
		}
	}
	if counts["kind 6"] > 0 {
		t.Errorf("%d jobs are missed", counts["kind 6"])
	}
}

// anyBusyState returns a valid state by chance that does not come from Boot: any table, lines, interfaces, and time, and partitions of other systems.
func anyBusyState(r *rand.Rand) state {
	s, _ := kernel.Boot(anySystem(r, 1+r.Intn(api.MaxParts)))
	for range 60 {
		c := tick()
		if r.Intn(4) > 0 {
			c = do(anyCmd(r, s))
		}
		s = c.do(s).s
	}
	other, _ := kernel.Boot(anySystem(r, r.Intn(api.MaxParts+1)))
	if r.Intn(2) == 0 {
		s.Table = other.Table
	}
	if r.Intn(2) == 0 {
		s.Lines = other.Lines
	}
	for i := range s.Faces {
		if r.Intn(5) == 0 {
			s.Faces[i] = api.Face{P: r.Intn(12) - 1, B: r.Intn(9) - 1}
		}
		if p := s.Parts[i]; r.Intn(5) == 0 {
			p.Log = filled(api.MaxLog - r.Intn(2))
			s = parted(s, i, p)
		}
	}
	if r.Intn(3) == 0 {
		s.Now = []int{0, r.Intn(1000), s.Table.Frame * r.Intn(1000), lastTime - r.Intn(2)}[r.Intn(4)]
	}
	return s
}

// P21.2, P21.3: states by chance that are valid, but could not come from Boot.
func TestAnyStatesByChance(t *testing.T) {
	r := rand.New(rand.NewSource(62))
	counts := map[string]int{}
	for range 1500 {
		s := anyBusyState(r)
		if !kernel.Right(s) {
			t.Fatalf("not valid: %+v", s)
		}
		for range 12 {
			c := do(anyCmd(r, s))
			got := check(t, s, c)
			apart(t, s, c.d, got)
			counts[c.name+" "+string(rune('0'+got.err))]++
		}
		check(t, s, tick())
	}
	for _, x := range []string{"Do 4", "Release 0", "Release 1", "Release 4", "Release 6", "Release 9", "Send 0", "Send 3", "Send 4", "Send 7", "Read 0", "Read 4", "Read 7", "Add 0", "Add 1", "Add 7", "Add 9", "Drop 0", "Drop 1", "Drop 9", "Change 0", "Change 1", "Change 7", "Change 9"} {
		if counts[x] < 20 {
			t.Errorf("too few of a kind: %v", counts)
		}
	}
}

// A view is all that a partition sees in a run.
type view struct {
	results []answer
	ran     []int
}

// play runs a system with requests ahead of each tick, of which only some are made, and returns what a partition sees of it; a result of its own requests is taken without the state.
func play(s state, script [][]cmd, p int, made func(d cmd) bool) (state, view) {
	var v view
	for _, l := range script {
		for _, d := range l {
			if !made(d) {
				continue
			}
			got := do(d).do(s)
			if s = got.s; d.Part == p {
				v.results = append(v.results, answer{v: got.v, err: got.err})
			}
		}
		got := tick().do(s)
		s = got.s
		v.ran = append(v.ran, got.ran[p])
	}
	return s, v
}

// P21.5: whatever others request, a partition has the same state, and sees the same, as long as the same is sent; and if it never sends nor reads, as if it were alone.
func TestWhatOthersRequest(t *testing.T) {
	r := rand.New(rand.NewSource(63))
	for range 250 {
		n := 1 + r.Intn(api.MaxParts)
		first := booted(t, anySystem(r, n))
		script := make([][]cmd, 60)
		for i := range script {
			for range r.Intn(8) {
				script[i] = append(script[i], anyCmd(r, first))
			}
		}
		for p := range n {
			mute := func(d cmd) bool { return d.Part != p || d.Kind != kernel.Send && d.Kind != kernel.Read }
			for kind, made := range [][2]func(d cmd) bool{
				{func(cmd) bool { return true }, func(d cmd) bool { return d.Part == p || d.Kind == kernel.Send }},
				{mute, func(d cmd) bool { return d.Part == p && mute(d) }},
			} {
				a, x := play(first, script, p, made[0])
				b, y := play(first, script, p, made[1])
				if !samePart(a.Parts[p], b.Parts[p]) || !slices.Equal(x.ran, y.ran) || !slices.EqualFunc(x.results, y.results, answer.equal) {
					t.Fatalf("kind %d, partition %d of %+v:\n%+v, %+v, and alone\n%+v, %+v", kind, p, first, x, a.Parts[p], y, b.Parts[p])
				}
			}
		}
	}
}

// P21.5: each request of each partition leaves all other partitions as they are, whatever the state is.
func TestARequestLeavesOthersAlone(t *testing.T) {
	for _, s := range []state{busy(), booted(t, full()), booted(t, some()), at(busy(), lastTime)} {
		for p := -1; p <= len(s.Parts); p++ {
			for i := -1; i <= 8; i++ {
				for _, d := range all(p, i, 2, with(1, 200, 200)) {
					apart(t, s, d, check(t, s, do(d)))
				}
			}
		}
	}
}

// counted returns how many ticks each partition could run in, if it always has a job, in n ticks from a time on.
func counted(t *testing.T, s state, n int) []int {
	t.Helper()
	out := make([]int, len(s.Parts))
	for i := range s.Parts {
		s = parted(s, i, long(s.Now))
	}
	for range n {
		got := step(t, s, tick())
		many := 0
		for i, who := range got.ran {
			if who >= 0 {
				out[i]++
				many++
			}
		}
		if many > 1 {
			t.Fatalf("at %d jobs of %d partitions ran", s.Now, many)
		}
		s = got.s
	}
	return out
}

// P21.4: in each period of its interface a partition that always has a job gets the ticks that its interface says, whatever the others have.
func TestEachPartitionGetsItsTicks(t *testing.T) {
	r := rand.New(rand.NewSource(64))
	for k := range 120 {
		s := booted(t, anySystem(r, 1+k%api.MaxParts))
		for i, f := range s.Faces {
			for _, from := range []int{0, f.P, 3 * f.P, 100 * f.P} {
				if got := counted(t, at(s, from), f.P)[i]; got != f.B {
					t.Errorf("partition %d of %v had %d ticks from %d on", i, s.Faces, got, from)
				}
			}
		}
	}
}
