package kernel_test

import (
	"math"
	"slices"
	"testing"

	"remontoir/admit"
	"remontoir/api"
	"remontoir/image"
	"remontoir/kernel"
	"remontoir/part"
	"remontoir/port"
	"remontoir/ring"
	"remontoir/synth"
	"remontoir/table"
	"remontoir/task"
)

type (
	config = api.Config
	parts  = []api.Part
	tasks  = []api.Task
	ports  = []api.Port
	faces  = []api.Face
	lines  = []port.Line
	jobs   = []api.Job
	log    = []api.Entry
	state  = kernel.State
	cmd    = kernel.Cmd
)

// lastTime is the last time at which there is a tick.
const lastTime = api.MaxNum - api.MaxTime

// ends returns the numbers at the ends of int, and others far away from what is valid, some of which have a valid lowest byte.
func ends() []int {
	return []int{math.MinInt, math.MinInt + 1, -api.MaxNum, -1<<32 + 1, 1<<8 + 1, 1<<32 + 1, api.MaxNum, math.MaxInt - 1, math.MaxInt}
}

// plain returns tasks without sections, of the numbers taken in threes: C, D, T.
func plain(n ...int) tasks {
	var l tasks
	for i := 0; i+2 < len(n); i += 3 {
		l = append(l, api.Task{C: n[i], D: n[i+1], T: n[i+2]})
	}
	return l
}

// with returns a task with sections, of the numbers taken in threes: Res, At, Len.
func with(c, d, t int, n ...int) api.Task {
	x := api.Task{C: c, D: d, T: t}
	for i := 0; i+2 < len(n); i += 3 {
		x.Secs = append(x.Secs, api.Sec{Res: n[i], At: n[i+1], Len: n[i+2]})
	}
	return x
}

// layout says to whom each tick of the frame of some belongs.
var layout = [...]int{0, 1, 1, 1, 0, 2, -1, -1}

// some returns a system with partitions that have different interfaces, the last one without tasks, and with ports between them.
func some() config {
	return config{
		Parts: parts{
			{Face: api.Face{P: 4, B: 1}, Tasks: tasks{with(1, 8, 8), with(1, 16, 16)}},
			{Face: api.Face{P: 8, B: 3}, Tasks: tasks{with(2, 16, 16, 0, 0, 2, 1, 1, 1), with(1, 13, 16, 0, 0, 1)}},
			{Face: api.Face{P: 8, B: 1}},
		},
		Ports: ports{{From: 0, To: 1, Cap: 2}, {From: 1, To: 0, Cap: 1}, {From: 2, To: 0, Cap: 4}},
	}
}

// full returns a system with as many partitions, tasks, and ports as there may be; all ticks belong to a partition.
func full() config {
	var c config
	for i := range api.MaxParts {
		p := api.Part{Face: api.Face{P: 4, B: 1}}
		for j := range api.MaxTasks {
			p.Tasks = append(p.Tasks, with(1+i, 190+j, 200, j%api.MaxRes, i, 1))
		}
		c.Parts = append(c.Parts, p)
		c.Ports = append(c.Ports, api.Port{From: i, To: (i + 1) % api.MaxParts, Cap: 1 + i})
	}
	return c
}

// bare returns a system with n partitions that have no tasks, and these ports.
func bare(n int, l ...api.Port) config {
	return config{Parts: slices.Repeat(parts{{Face: api.Face{P: 8, B: 1}}}, n), Ports: l}
}

// faced returns a system with partitions that have these interfaces, and no tasks.
func faced(l ...api.Face) config {
	var c config
	for _, f := range l {
		c.Parts = append(c.Parts, api.Part{Face: f})
	}
	return c
}

// filled returns a log of n entries, each of which is another one.
func filled(n int) log {
	out := make(log, n)
	for i := range out {
		out[i] = api.Entry{At: i, Kind: i % 9, Task: i % 11}
	}
	return out
}

// holding returns a ring with a number of places that holds the messages, from a place on; in all other places is something else.
func holding(places, first int, l ...int) ring.Ring {
	r := ring.Ring{First: first, Many: len(l)}
	for i := range places {
		r.Buf = append(r.Buf, 9001+i)
	}
	for i, v := range l {
		r.Buf[(first+i)%places] = v
	}
	return r
}

// busy returns the state of some in the middle of a frame: with jobs, one of which has begun, a task that is leaving, entries, and messages on all lines.
func busy() state {
	s, _ := kernel.Boot(some())
	s.Now = 19
	s.Parts[0].Lasts, s.Parts[0].Log = []int{16, 18}, filled(5)
	s.Parts[0].Jobs = jobs{{Task: 1, At: 18, Due: 34, Want: 1}, {Task: 0, At: 16, Due: 24, Want: 2}}
	s.Parts[1].Lasts, s.Parts[1].Log, s.Parts[1].Leaves = []int{17, 3}, filled(7), []bool{false, true}
	s.Parts[1].Jobs = jobs{{Task: 0, At: 17, Due: 33, Want: 9, Had: 1, Began: true}}
	s.Parts[2].Log = filled(1)
	s.Lines[0].Under, s.Lines[0].Got = holding(2, 1, 41), holding(2, 1, 31, 32)
	s.Lines[1].Under, s.Lines[1].Got = holding(1, 0, 42), holding(1, 0)
	s.Lines[2].Under, s.Lines[2].Got = holding(4, 3), holding(4, 2, 33)
	return s
}

// at returns the state at another time.
func at(s state, now int) state {
	s.Now = now
	return s
}

// parted returns the state with p as that of partition i.
func parted(s state, i int, p part.State) state {
	s.Parts = slices.Clone(s.Parts)
	s.Parts[i] = p
	return s
}

// lined returns the state with x as line i.
func lined(s state, i int, x port.Line) state {
	s.Lines = slices.Clone(s.Lines)
	s.Lines[i] = x
	return s
}

func samePart(a, b part.State) bool {
	return slices.EqualFunc(a.Tasks, b.Tasks, task.Same) && slices.Equal(a.Leaves, b.Leaves) && slices.Equal(a.Lasts, b.Lasts) && slices.Equal(a.Jobs, b.Jobs) && slices.Equal(a.Log, b.Log)
}

func sameRing(a, b ring.Ring) bool {
	return slices.Equal(a.Buf, b.Buf) && a.First == b.First && a.Many == b.Many
}

func sameLine(a, b port.Line) bool {
	return a.Port == b.Port && sameRing(a.Under, b.Under) && sameRing(a.Got, b.Got)
}

// same reports whether two states are equal.
func same(a, b state) bool {
	return a.Table.Frame == b.Table.Frame && slices.Equal(a.Table.Windows, b.Table.Windows) && slices.Equal(a.Faces, b.Faces) &&
		slices.EqualFunc(a.Parts, b.Parts, samePart) && slices.EqualFunc(a.Lines, b.Lines, sameLine) && a.Now == b.Now
}

// modelRight is the document's word.
func modelRight(s state) bool {
	for _, p := range s.Parts {
		if !part.Right(p) {
			return false
		}
	}
	return table.Right(s.Table) && len(s.Faces) == len(s.Parts) && len(s.Parts) <= 4 && port.Right(s.Lines) && s.Now >= 0 && s.Now <= 1<<62-201
}

// modelBoot is the document's word.
func modelBoot(c config) (state, api.Errno) {
	var s state
	if !image.Right(c) {
		return state{}, api.ErrArg
	}
	for _, p := range c.Parts {
		s.Faces = append(s.Faces, p.Face)
	}
	ticks, err := synth.Lay(s.Faces)
	if err != api.OK {
		return state{}, err
	}
	s.Table, _ = table.Of(ticks)
	for _, p := range c.Parts {
		x, err := admit.Boot(p)
		if err != api.OK {
			return state{}, err
		}
		s.Parts = append(s.Parts, x)
	}
	for _, p := range c.Ports {
		s.Lines = append(s.Lines, port.Line{Port: p, Under: ring.Ring{Buf: make([]int, p.Cap)}, Got: ring.Ring{Buf: make([]int, p.Cap)}})
	}
	return s, api.OK
}

// modelDo is the document's word.
func modelDo(s state, c cmd) (state, int, api.Errno) {
	if !modelRight(s) {
		return s, 0, api.ErrArg
	}
	if c.Part < 0 || c.Part >= len(s.Parts) || c.Kind < 1 || c.Kind > 6 {
		return s, 0, api.ErrNone
	}
	p, f := s.Parts[c.Part], s.Faces[c.Part]
	l, v, err := s.Lines, 0, api.OK
	switch c.Kind {
	case 1:
		p, err = part.Release(p, c.I, c.V, s.Now)
	case 2:
		l, err = port.Send(l, c.Part, c.I, c.V)
	case 3:
		v, l, err = port.Read(l, c.Part, c.I)
	case 4:
		p, err = admit.Add(p, f, c.T)
	case 5:
		p, err = admit.Drop(p, c.I)
	case 6:
		p, err = admit.Change(p, f, c.I, c.T)
	}
	s = parted(s, c.Part, p)
	s.Lines = l
	return s, v, err
}

// modelTick is the document's word.
func modelTick(s state) (state, []int, api.Errno) {
	if !modelRight(s) {
		return state{}, nil, api.ErrArg
	}
	ticks, _ := table.Ticks(s.Table)
	place := s.Now % len(ticks)
	if place == 0 {
		s.Lines = port.Deliver(s.Lines)
	}
	var ran []int
	for i, p := range s.Parts {
		p, who, _ := part.Tick(p, ticks[place] == i, s.Now)
		s = parted(s, i, p)
		ran = append(ran, who)
	}
	s.Now++
	return s, ran, api.OK
}

// A call is one of those of the layer, with its arguments.
type call struct {
	name string
	c    config
	d    cmd
}

func boot(c config) call { return call{name: "Boot", c: c} }
func tick() call         { return call{name: "Tick"} }

// do returns the call of a request; its name is the Kind.
func do(d cmd) call {
	if d.Kind < 1 || d.Kind > 6 {
		return call{name: "Do", d: d}
	}
	return call{name: []string{"Release", "Send", "Read", "Add", "Drop", "Change"}[d.Kind-1], d: d}
}

func release(p, i, want int) cmd      { return cmd{Part: p, Kind: kernel.Release, I: i, V: want} }
func send(p, i, v int) cmd            { return cmd{Part: p, Kind: kernel.Send, I: i, V: v} }
func read(p, i int) cmd               { return cmd{Part: p, Kind: kernel.Read, I: i} }
func add(p int, t api.Task) cmd       { return cmd{Part: p, Kind: kernel.Add, T: t} }
func drop(p, i int) cmd               { return cmd{Part: p, Kind: kernel.Drop, I: i} }
func change(p, i int, t api.Task) cmd { return cmd{Part: p, Kind: kernel.Change, I: i, T: t} }
func all(p, i, v int, t api.Task) []cmd {
	var out []cmd
	for kind := range 6 {
		out = append(out, cmd{Part: p, Kind: kind + 1, I: i, V: v, T: t})
	}
	return out
}

// An answer is all that a call returns.
type answer struct {
	s   state
	v   int
	ran []int
	err api.Errno
}

func (a answer) equal(b answer) bool {
	return same(a.s, b.s) && a.v == b.v && slices.Equal(a.ran, b.ran) && a.err == b.err
}

// do calls the program.
func (c call) do(s state) (a answer) {
	switch c.name {
	case "Boot":
		a.s, a.err = kernel.Boot(c.c)
	case "Tick":
		a.s, a.ran, a.err = kernel.Tick(s)
	default:
		a.s, a.v, a.err = kernel.Do(s, c.d)
	}
	return a
}

// model asks the model.
func (c call) model(s state) (a answer) {
	switch c.name {
	case "Boot":
		a.s, a.err = modelBoot(c.c)
	case "Tick":
		a.s, a.ran, a.err = modelTick(s)
	default:
		a.s, a.v, a.err = modelDo(s, c.d)
	}
	return a
}

// check checks one call for a state, valid or not, and returns what it returns.
func check(t *testing.T, s state, c call) answer {
	t.Helper()
	got, want := c.do(s), c.model(s)
	if !got.equal(want) {
		t.Fatalf("%+v of %+v:\n%+v, want\n%+v", c, s, got, want)
	}
	if kernel.Right(got.s) != modelRight(got.s) {
		t.Fatalf("Right of %+v: not %v", got.s, modelRight(got.s))
	}
	return got
}

// booted checks that a system boots, and returns its state.
func booted(t *testing.T, c config) state {
	t.Helper()
	got := check(t, state{}, boot(c))
	if got.err != api.OK || !kernel.Right(got.s) || got.s.Now != 0 {
		t.Fatalf("Boot of %+v: %+v", c, got)
	}
	return got.s
}

// unbooted checks that a system does not boot, with this error, and no state.
func unbooted(t *testing.T, c config, err api.Errno) {
	t.Helper()
	got := check(t, state{}, boot(c))
	if s := got.s; got.err != err || s.Table.Frame != 0 || s.Table.Windows != nil || s.Faces != nil || s.Parts != nil || s.Lines != nil || s.Now != 0 {
		t.Fatalf("Boot of %+v: %+v, want %d", c, got, err)
	}
}

// expect checks a request, and that it has just this result.
func expect(t *testing.T, s state, d cmd, v int, err api.Errno, want state) state {
	t.Helper()
	got := check(t, s, do(d))
	if !got.equal(answer{s: want, v: v, err: err}) {
		t.Fatalf("%+v of %+v:\n%+v, want\n%+v, %d, %d", d, s, got, want, v, err)
	}
	return got.s
}

// refused checks that a request has the error, and changes nothing.
func refused(t *testing.T, s state, d cmd, err api.Errno) {
	t.Helper()
	expect(t, s, d, 0, err, s)
}

// logged returns the state with an entry more in the log of a partition.
func logged(s state, i int, e api.Entry) state {
	p := s.Parts[i]
	p.Log = append(slices.Clip(p.Log), e)
	return parted(s, i, p)
}

// released checks that a job is released at the current time, and all that changes.
func released(t *testing.T, s state, i, k, want int) state {
	t.Helper()
	p := s.Parts[i]
	p.Jobs = append(slices.Clip(p.Jobs), api.Job{Task: k, At: s.Now, Due: s.Now + p.Tasks[k].D, Want: want})
	p.Lasts = slices.Clone(p.Lasts)
	p.Lasts[k] = s.Now
	return expect(t, s, release(i, k, want), 0, api.OK, logged(parted(s, i, p), i, api.Entry{At: s.Now, Kind: api.Released, Task: k}))
}

// sent checks that a message is under way then, after all others, and that nothing else changes.
func sent(t *testing.T, s state, i, v int) state {
	t.Helper()
	x := s.Lines[i]
	x.Under.Buf = slices.Clone(x.Under.Buf)
	x.Under.Buf[(x.Under.First+x.Under.Many)%x.Port.Cap] = v
	x.Under.Many++
	return expect(t, s, send(x.Port.From, i, v), 0, api.OK, lined(s, i, x))
}

// taken checks that a message is read, and that nothing else changes.
func taken(t *testing.T, s state, i, v int) state {
	t.Helper()
	x := s.Lines[i]
	x.Got.First = (x.Got.First + 1) % x.Port.Cap
	x.Got.Many--
	return expect(t, s, read(x.Port.To, i), v, api.OK, lined(s, i, x))
}

// joined returns the state with a task behind those of a partition.
func joined(s state, i int, x api.Task) state {
	p := s.Parts[i]
	p.Tasks, p.Leaves, p.Lasts = append(slices.Clip(p.Tasks), x), append(slices.Clip(p.Leaves), false), append(slices.Clip(p.Lasts), -1)
	return parted(s, i, p)
}

// leaving returns the state with task k of a partition leaving.
func leaving(s state, i, k int) state {
	p := s.Parts[i]
	p.Leaves = slices.Clone(p.Leaves)
	p.Leaves[k] = true
	return parted(s, i, p)
}

// added checks that a task is added, and all that changes.
func added(t *testing.T, s state, i int, x api.Task) state {
	t.Helper()
	return expect(t, s, add(i, x), 0, api.OK, joined(s, i, x))
}

// dropped checks that a task is leaving then, and all that changes.
func dropped(t *testing.T, s state, i, k int) state {
	t.Helper()
	return expect(t, s, drop(i, k), 0, api.OK, leaving(s, i, k))
}

// changed checks that a task is added, another one is leaving then, and that nothing else changes.
func changed(t *testing.T, s state, i, k int, x api.Task) state {
	t.Helper()
	return expect(t, s, change(i, k, x), 0, api.OK, leaving(joined(s, i, x), i, k))
}

// ticked checks a tick, and the tasks whose jobs ran.
func ticked(t *testing.T, s state, ran ...int) state {
	t.Helper()
	got := check(t, s, tick())
	if got.err != api.OK || !slices.Equal(got.ran, ran) || got.s.Now != s.Now+1 || got.s.Table.Frame != s.Table.Frame || !slices.Equal(got.s.Table.Windows, s.Table.Windows) || !slices.Equal(got.s.Faces, s.Faces) {
		t.Fatalf("Tick of %+v: %+v, want %v", s, got, ran)
	}
	return got.s
}

// unticked checks that there is no tick, and no state.
func unticked(t *testing.T, s state) {
	t.Helper()
	if got := check(t, s, tick()); !got.equal(answer{err: api.ErrArg}) {
		t.Fatalf("Tick of %+v: %+v", s, got)
	}
}

// P21.1: no partitions, any number of them up to MaxParts, and more.
func TestBootOfPartitions(t *testing.T) {
	s := booted(t, config{})
	if s.Table.Frame != 1 || len(s.Table.Windows) != 0 || len(s.Faces) != 0 || len(s.Parts) != 0 || len(s.Lines) != 0 {
		t.Errorf("Boot of nothing: %+v", s)
	}
	for n := range 3 * api.MaxParts {
		if n > api.MaxParts {
			unbooted(t, bare(n), api.ErrArg)
			unbooted(t, config{Parts: slices.Repeat(full().Parts[:1], n)}, api.ErrArg)
			continue
		}
		s := booted(t, bare(n))
		if len(s.Faces) != n || len(s.Parts) != n || len(s.Table.Windows) != n {
			t.Errorf("Boot of %d partitions: %+v", n, s)
		}
		c := full()
		c.Parts, c.Ports = c.Parts[:n], nil
		s = booted(t, c)
		for i, p := range s.Parts {
			if s.Faces[i] != c.Parts[i].Face || !slices.EqualFunc(p.Tasks, c.Parts[i].Tasks, task.Same) || len(p.Leaves) != 8 || len(p.Lasts) != 8 || slices.Contains(p.Leaves, true) || slices.Max(p.Lasts) != -1 || len(p.Jobs) != 0 || len(p.Log) != 0 {
				t.Errorf("Boot of %+v: %+v", c, p)
			}
		}
	}
}

// P21.1: no ports, any number of them up to MaxPorts, and more.
func TestBootOfPorts(t *testing.T) {
	for n := range 3 * api.MaxPorts {
		var l ports
		for k := range n {
			l = append(l, api.Port{From: k % 3, To: 3, Cap: 1 + k%api.MaxQueue})
		}
		unbooted(t, bare(api.MaxParts+1, l...), api.ErrArg)
		if n > 0 {
			unbooted(t, bare(3, l...), api.ErrArg)
			unbooted(t, bare(0, l...), api.ErrArg)
		}
		if n > api.MaxPorts {
			unbooted(t, bare(4, l...), api.ErrArg)
			continue
		}
		s := booted(t, bare(4, l...))
		if len(s.Lines) != n {
			t.Errorf("Boot of %d ports: %+v", n, s.Lines)
		}
		for k, x := range s.Lines {
			if !sameLine(x, port.Line{Port: l[k], Under: ring.Ring{Buf: make([]int, 1+k%4)}, Got: ring.Ring{Buf: make([]int, 1+k%4)}}) {
				t.Errorf("Boot of %+v: line %d is %+v", l, k, x)
			}
		}
	}
}

// P21.1: the table of a system, window by window.
func TestBootOfTheTable(t *testing.T) {
	for _, x := range []struct {
		c     config
		frame int
		want  []api.Window
	}{
		{some(), 8, []api.Window{{Part: 0, From: 0, Len: 1}, {Part: 1, From: 1, Len: 3}, {Part: 0, From: 4, Len: 1}, {Part: 2, From: 5, Len: 1}}},
		{full(), 4, []api.Window{{Part: 0, From: 0, Len: 1}, {Part: 1, From: 1, Len: 1}, {Part: 2, From: 2, Len: 1}, {Part: 3, From: 3, Len: 1}}},
		{faced(api.Face{P: 1, B: 1}), 1, []api.Window{{Part: 0, From: 0, Len: 1}}},
		{faced(api.Face{P: 200, B: 7}), 200, []api.Window{{Part: 0, From: 0, Len: 7}}},
		{faced(api.Face{P: 4, B: 2}, api.Face{P: 2, B: 1}), 4, []api.Window{{Part: 1, From: 0, Len: 1}, {Part: 0, From: 1, Len: 2}, {Part: 1, From: 3, Len: 1}}},
	} {
		s := booted(t, x.c)
		if s.Table.Frame != x.frame || !slices.Equal(s.Table.Windows, x.want) {
			t.Errorf("Boot of %+v: %+v", x.c, s.Table)
		}
		if !slices.EqualFunc(s.Faces, x.c.Parts, func(f api.Face, p api.Part) bool { return f == p.Face }) {
			t.Errorf("Boot of %+v: %+v", x.c, s.Faces)
		}
	}
}

// wrongFaces returns interfaces that are not valid.
func wrongFaces() faces {
	out := faces{{}, {P: 1, B: 0}, {P: 0, B: 1}, {P: 2, B: 3}, {P: 2, B: -1}, {P: -2, B: -1}, {P: 201, B: 1}, {P: 201, B: 201}}
	for _, n := range ends() {
		out = append(out, api.Face{P: n, B: 1}, api.Face{P: 2, B: n}, api.Face{P: n, B: n})
	}
	return out
}

// wrongTasks returns tasks that are not valid.
func wrongTasks() tasks {
	return tasks{
		{}, {C: 0, D: 1, T: 1}, {C: 3, D: 2, T: 4}, {C: 1, D: 3, T: 2}, {C: 1, D: 1, T: 201}, {C: 201, D: 201, T: 201},
		with(3, 3, 3, 4, 0, 1), with(3, 3, 3, -1, 0, 1), with(3, 3, 3, 0, -1, 1), with(3, 3, 3, 0, 2, 2), with(3, 3, 3, 0, 0, 0), with(3, 3, 3, 0, 0, 2, 0, 1, 1), with(3, 3, 3, 1, 1, 1, 0, 0, 1),
		with(5, 5, 5, 0, 0, 1, 0, 1, 1, 0, 2, 1, 0, 3, 1, 0, 4, 1),
		{C: math.MaxInt, D: math.MaxInt, T: math.MaxInt}, {C: math.MinInt, D: math.MinInt, T: math.MinInt},
	}
}

// wrongPorts returns ports that are not valid in a system of three partitions.
func wrongPorts() ports {
	out := ports{{}, {From: 1, To: 1, Cap: 1}, {From: 0, To: 1, Cap: 0}, {From: 0, To: 1, Cap: 5}, {From: 0, To: 3, Cap: 1}, {From: 3, To: 0, Cap: 1}, {From: -1, To: 0, Cap: 1}, {From: 0, To: -1, Cap: 1}, {From: 0, To: 4, Cap: 1}}
	for _, n := range ends() {
		out = append(out, api.Port{From: n, To: 1, Cap: 1}, api.Port{From: 1, To: n, Cap: 1}, api.Port{From: 0, To: 1, Cap: n})
	}
	return out
}

// P21.1: systems that are not valid, because of one interface, one task, or one port, in each place.
func TestBootOfSystemsThatAreNotValid(t *testing.T) {
	for i := range 3 {
		for _, f := range wrongFaces() {
			c := some()
			c.Parts[i].Face = f
			unbooted(t, c, api.ErrArg)
		}
		for _, x := range wrongTasks() {
			for k := range len(some().Parts[i].Tasks) + 1 {
				c := some()
				c.Parts[i].Tasks = slices.Insert(c.Parts[i].Tasks, k, x)
				unbooted(t, c, api.ErrArg)
			}
		}
		c := some()
		c.Parts[i].Tasks = slices.Repeat(tasks{with(1, 200, 200)}, api.MaxTasks+1)
		unbooted(t, c, api.ErrArg)
		for _, p := range wrongPorts() {
			c := some()
			c.Ports[i] = p
			unbooted(t, c, api.ErrArg)
		}
	}
	for _, p := range (ports{{From: 0, To: 2, Cap: 1}, {From: 2, To: 1, Cap: 4}}) {
		c := some()
		c.Ports = append(c.Ports, p)
		booted(t, c)
	}
}

// P21.1: frames that are just MaxFrame, and just above it; shares that are just the frame, and just above it.
func TestBootOfInterfaces(t *testing.T) {
	for _, x := range []struct {
		l   faces
		err api.Errno
	}{
		{faces{{P: 15, B: 1}, {P: 16, B: 1}}, api.OK},
		{faces{{P: 120, B: 100}, {P: 80, B: 1}}, api.OK},
		{faces{{P: 2, B: 1}, {P: 121, B: 1}}, api.ErrLarge},
		{faces{{P: 16, B: 1}, {P: 17, B: 1}}, api.ErrLarge},
		{faces{{P: 199, B: 1}, {P: 197, B: 1}, {P: 193, B: 1}, {P: 191, B: 1}}, api.ErrLarge},
		{faces{{P: 199, B: 199}, {P: 197, B: 197}}, api.ErrLarge},
		{faces{{P: 8, B: 2}, {P: 4, B: 1}, {P: 2, B: 1}}, api.OK},
		{faces{{P: 8, B: 3}, {P: 4, B: 1}, {P: 2, B: 1}}, api.ErrDeny},
		{faces{{P: 8, B: 2}, {P: 4, B: 2}, {P: 2, B: 1}}, api.ErrDeny},
		{faces{{P: 15, B: 8}, {P: 16, B: 7}}, api.OK},
		{faces{{P: 15, B: 8}, {P: 16, B: 8}}, api.ErrDeny},
		{faces{{P: 4, B: 1}, {P: 4, B: 1}, {P: 4, B: 1}, {P: 4, B: 1}}, api.OK},
		{faces{{P: 4, B: 1}, {P: 4, B: 1}, {P: 4, B: 1}, {P: 4, B: 2}}, api.ErrDeny},
		{faces{{P: 200, B: 200}}, api.OK},
		{faces{{P: 200, B: 200}, {P: 200, B: 1}}, api.ErrDeny},
		{faces{{P: 200, B: 199}, {P: 200, B: 1}}, api.OK},
		{faces{{P: 1, B: 1}}, api.OK},
		{faces{{P: 1, B: 1}, {P: 1, B: 1}}, api.ErrDeny},
	} {
		for range x.l { // in any order
			if x.err == api.OK {
				booted(t, faced(x.l...))
			} else {
				unbooted(t, faced(x.l...), x.err)
			}
			x.l = append(slices.Clone(x.l[1:]), x.l[0])
		}
	}
}

// tooLarge and tooMuch return tasks that are valid, but whose end is above MaxBound, or that don't fit any interface.
func tooLarge() tasks { return plain(1, 197, 197, 1, 199, 199) }
func tooMuch() tasks  { return plain(9, 9, 9, 9, 9, 9) }

// P21.1: partitions whose tasks don't fit: the first, the last one, any, and several with different errors, of which that of the first one is returned.
func TestBootOfTasksThatDoNotFit(t *testing.T) {
	errs := []api.Errno{api.OK, api.ErrLarge, api.ErrDeny}
	for n := 1; n <= api.MaxParts; n++ {
		choices := 1
		for range n {
			choices *= 3
		}
		for choice := range choices {
			c, err := full(), api.OK
			c.Parts, c.Ports = c.Parts[:n], nil
			for i := range n {
				kind := choice % 3
				choice /= 3
				if kind > 0 {
					c.Parts[i].Tasks = [][]api.Task{tooLarge(), tooMuch()}[kind-1]
				}
				if err == api.OK {
					err = errs[kind]
				}
			}
			if err == api.OK {
				booted(t, c)
			} else {
				unbooted(t, c, err)
			}
		}
	}
}

// P21.1: several errors at once: that of the system comes ahead of that of the frame, then that of the share, then those of the tasks.
func TestBootErrorsTogether(t *testing.T) {
	for set := range 1 << 5 {
		is := func(bit int) bool { return set>>bit&1 == 1 }
		c, err := some(), api.OK
		for bit, x := range []struct {
			change func()
			err    api.Errno
		}{
			{func() { c.Ports[2].Cap = 5 }, api.ErrArg},
			{func() { c.Parts[2].Face.P = 199 }, api.ErrLarge},
			{func() { c.Parts[0].Face.B = 4 }, api.ErrDeny},
			{func() { c.Parts[1].Tasks = tooLarge() }, api.ErrLarge},
			{func() { c.Parts[2].Tasks = tooMuch() }, api.ErrDeny},
		} {
			if is(bit) {
				x.change()
				if err == api.OK {
					err = x.err
				}
			}
		}
		if err == api.OK {
			booted(t, c)
		} else {
			unbooted(t, c, err)
		}
	}
}

// wrongParts returns states of partitions that are not valid, in each way in which one can be so.
func wrongParts() []part.State {
	good := func() part.State {
		return part.State{Tasks: tasks{with(2, 20, 20), with(1, 13, 16)}, Leaves: []bool{false, true}, Lasts: []int{3, -1}, Jobs: jobs{{Task: 0, At: 3, Due: 23, Want: 2}}, Log: filled(3)}
	}
	var out []part.State
	put := func(change func(p *part.State)) {
		p := good()
		change(&p)
		out = append(out, p)
	}
	for _, x := range wrongTasks() {
		put(func(p *part.State) { p.Tasks[0] = x })
		put(func(p *part.State) { p.Tasks[1] = x })
	}
	put(func(p *part.State) {
		p.Tasks, p.Leaves, p.Lasts = slices.Repeat(p.Tasks[:1], 9), make([]bool, 9), make([]int, 9)
	})
	for _, n := range []int{0, 1, 3, 8} {
		put(func(p *part.State) { p.Leaves = make([]bool, n) })
		put(func(p *part.State) { p.Lasts = make([]int, n) })
	}
	for _, n := range []int{-2, api.MaxNum + 1, math.MinInt, math.MaxInt} {
		put(func(p *part.State) { p.Lasts[0] = n })
		put(func(p *part.State) { p.Lasts[1] = n })
	}
	for _, j := range []api.Job{
		{}, {Task: -1, Due: 20, Want: 1}, {Task: 2, Due: 20, Want: 1}, {Task: 0, Due: 21, Want: 1}, {Task: 0, At: -1, Due: 19, Want: 1}, {Task: 0, At: lastTime + 1, Due: lastTime + 21, Want: 1},
		{Task: 0, Due: 20}, {Task: 0, Due: 20, Want: 201}, {Task: 0, Due: 20, Want: 9, Had: 2, Began: true}, {Task: 0, Due: 20, Want: 1, Had: 1, Began: true}, {Task: 0, Due: 20, Want: 2, Had: 1}, {Task: 0, Due: 20, Want: 2, Had: -1},
		{Task: math.MaxInt, At: math.MaxInt, Due: math.MaxInt, Want: math.MaxInt, Had: math.MaxInt, Began: true},
	} {
		put(func(p *part.State) { p.Jobs[0] = j })
		put(func(p *part.State) { p.Jobs = append(p.Jobs, j) })
	}
	put(func(p *part.State) { p.Jobs = slices.Repeat(p.Jobs, 2) })
	put(func(p *part.State) {
		for k := range api.MaxJobs {
			p.Jobs = append(p.Jobs, api.Job{Task: 0, At: 100 + k, Due: 120 + k, Want: 1})
		}
	})
	put(func(p *part.State) { p.Log = filled(api.MaxLog + 1) })
	put(func(p *part.State) { p.Tasks, p.Jobs = nil, nil })
	return out
}

// wrongTables returns tables that are not valid, in each way in which one can be so.
func wrongTables() []table.Table {
	w := func(n ...int) (out []api.Window) {
		for i := 0; i+2 < len(n); i += 3 {
			out = append(out, api.Window{Part: n[i], From: n[i+1], Len: n[i+2]})
		}
		return out
	}
	out := []table.Table{
		{}, {Frame: -1}, {Frame: 241}, {Windows: w(0, 0, 1)}, {Frame: 241, Windows: w(0, 0, 1)}, {Frame: 8, Windows: w(4, 0, 1)}, {Frame: 8, Windows: w(-1, 0, 1)}, {Frame: 8, Windows: w(0, -1, 2)}, {Frame: 8, Windows: w(0, 0, 0)}, {Frame: 8, Windows: w(0, 1, -1)},
		{Frame: 8, Windows: w(0, 0, 9)}, {Frame: 8, Windows: w(0, 8, 1)}, {Frame: 8, Windows: w(0, 7, 2)}, {Frame: 8, Windows: w(0, 4, 2, 1, 0, 2)}, {Frame: 8, Windows: w(0, 0, 3, 1, 2, 2)}, {Frame: 8, Windows: w(0, 0, 3, 0, 3, 2)}, {Frame: 8, Windows: w(0, 0, 1, 1, 1, 3, 0, 4, 1, 2, 5, 4)},
	}
	for _, n := range ends() {
		out = append(out, table.Table{Frame: n}, table.Table{Frame: 8, Windows: w(n, 0, 1)}, table.Table{Frame: 8, Windows: w(0, n, 1)}, table.Table{Frame: 8, Windows: w(0, 0, n)})
	}
	return out
}

// wrongLines returns lines each of which is not valid: because of its port, or of one ring.
func wrongLines() lines {
	p := api.Port{From: 0, To: 1, Cap: 2}
	out := lines{{}, {Port: p}, {Port: p, Under: holding(2, 0)}, {Port: p, Got: holding(2, 0)}, {Port: p, Under: holding(1, 0), Got: holding(2, 0)}, {Port: p, Under: holding(2, 0), Got: holding(3, 0)}}
	for _, x := range (ports{{From: -1, To: 1, Cap: 2}, {From: 1, To: 4, Cap: 2}, {From: 1, To: 1, Cap: 2}, {From: 0, To: 1, Cap: 0}, {From: 0, To: 1, Cap: 3}, {From: 0, To: 1, Cap: 5}, {From: math.MaxInt, To: math.MinInt, Cap: math.MaxInt}}) {
		out = append(out, port.Line{Port: x, Under: holding(2, 0), Got: holding(2, 0)})
	}
	for _, n := range append(ends(), -1, 3) {
		r := holding(2, 0)
		r.Many = n
		out = append(out, port.Line{Port: p, Under: r, Got: holding(2, 0)}, port.Line{Port: p, Under: holding(2, 0), Got: r})
		r.Many, r.First = 0, n
		out = append(out, port.Line{Port: p, Under: r, Got: holding(2, 0)}, port.Line{Port: p, Under: holding(2, 0), Got: r})
	}
	return out
}

// wrongTimes returns times that are none.
func wrongTimes() []int {
	return []int{-1, -2, -8, lastTime + 1, lastTime + 2, api.MaxNum, api.MaxNum + 1, math.MinInt, math.MinInt + 1, math.MaxInt - 1, math.MaxInt}
}

// wrongStates returns states that are not valid, in each way in which a state can be so.
func wrongStates() []state {
	out := []state{{}, {Now: 1}, {Faces: busy().Faces}, {Parts: busy().Parts}, {Lines: busy().Lines}}
	put := func(s state) { out = append(out, s) }
	for _, x := range wrongTables() {
		s := busy()
		s.Table = x
		put(s)
	}
	for n := range 2*api.MaxParts + 1 {
		s := busy()
		s.Faces = slices.Repeat(s.Faces, 3)[:n]
		if n != len(s.Parts) {
			put(s)
		}
		s = busy()
		s.Faces, s.Parts = slices.Repeat(s.Faces, 3)[:n], slices.Repeat(s.Parts, 3)[:n]
		if n > api.MaxParts {
			put(s)
		}
	}
	for i := range 3 {
		for _, p := range wrongParts() {
			put(parted(busy(), i, p))
		}
		for _, x := range wrongLines() {
			put(lined(busy(), i, x))
		}
	}
	many := busy()
	many.Lines = slices.Repeat(many.Lines[:1], api.MaxPorts+1)
	put(many)
	for _, now := range wrongTimes() {
		put(at(busy(), now))
		put(state{Table: table.Table{Frame: 8}, Now: now})
	}
	return out
}

// P21.1 to P21.3: states that are not valid, with requests that are, and that are not.
func TestStatesThatAreNotValid(t *testing.T) {
	for _, s := range wrongStates() {
		if kernel.Right(s) || modelRight(s) {
			t.Fatalf("valid: %+v", s)
		}
		unticked(t, s)
		for _, p := range []int{0, 1, 2, 3, -1} {
			for _, i := range []int{0, 1, -1} {
				for _, d := range append(all(p, i, 1, with(1, 200, 200)), cmd{Part: p, Kind: 0}, cmd{Part: p, Kind: 7}) {
					refused(t, s, d, api.ErrArg)
				}
			}
		}
	}
}

// P21.1: states that are just valid, each of which has a tick.
func TestStatesThatAreJustValid(t *testing.T) {
	var list []state
	for _, now := range []int{0, 1, 7, 8, 1<<32 + 1, lastTime - 1, lastTime} {
		list = append(list, at(busy(), now), at(booted(t, full()), now), at(booted(t, config{}), now))
	}
	for n := range api.MaxParts + 1 {
		s := busy()
		s.Faces, s.Parts = slices.Repeat(s.Faces, 2)[:n], slices.Repeat(s.Parts, 2)[:n]
		list = append(list, s)
	}
	for n := range api.MaxPorts + 1 {
		s := busy()
		s.Lines = slices.Repeat(s.Lines, 2)[:n]
		list = append(list, s)
	}
	for _, x := range []table.Table{{Frame: 1}, {Frame: 240}, {Frame: 240, Windows: []api.Window{{Part: 3, From: 0, Len: 240}}}, {Frame: 1, Windows: []api.Window{{Part: 2, From: 0, Len: 1}}}} {
		s := busy()
		s.Table = x
		list = append(list, s)
	}
	long := busy()
	for i := range long.Parts {
		long.Parts[i].Log = filled(api.MaxLog)
	}
	list = append(list, long)
	for _, s := range list {
		if !kernel.Right(s) || !modelRight(s) {
			t.Fatalf("not valid: %+v", s)
		}
		if got := check(t, s, tick()); got.err != api.OK || got.s.Now != s.Now+1 || len(got.ran) != len(s.Parts) {
			t.Errorf("Tick of %+v: %+v", s, got)
		}
	}
}

// P21.1, P21.2: of the interfaces only the number matters to a state; one that is not valid is that of its own partition alone.
func TestInterfacesThatAreNotValid(t *testing.T) {
	x := with(1, 200, 200)
	for i := range 3 {
		for _, f := range wrongFaces() {
			s := at(busy(), 32)
			s.Parts[1].Jobs = nil
			s.Faces[i] = f
			if !kernel.Right(s) {
				t.Fatalf("not valid: %+v", s)
			}
			for p := range 3 {
				if p == i {
					refused(t, s, add(p, x), api.ErrArg)
				} else {
					added(t, s, p, x)
				}
			}
			ticked(t, s, 1, -1, -1)
		}
	}
}

// P21.2: partitions and Kinds that there are not, also both at once, and with anything else.
func TestPartitionsAndKindsThatThereAreNot(t *testing.T) {
	for _, s := range []state{busy(), booted(t, bare(1)), booted(t, full()), booted(t, config{})} {
		n := len(s.Parts)
		for _, p := range append(ends(), -2, -1, n, n+1, api.MaxParts, api.MaxParts+1) {
			for _, kind := range append(ends(), -1, 0, 1, 2, 3, 4, 5, 6, 7, 8) {
				refused(t, s, cmd{Part: p, Kind: kind, V: 1, T: with(1, 200, 200)}, api.ErrNone)
				refused(t, s, cmd{Part: p, Kind: kind, I: p, V: p}, api.ErrNone)
			}
		}
		for p := range n {
			for _, kind := range append(ends(), -6, -2, -1, 0, 7, 8, 9, 10) {
				refused(t, s, cmd{Part: p, Kind: kind, V: 1, T: with(1, 200, 200)}, api.ErrNone)
				refused(t, s, cmd{Part: p, Kind: kind, I: kind, V: kind}, api.ErrNone)
			}
		}
	}
}

// P21.2: the numbers of the Kinds.
func TestKinds(t *testing.T) {
	if kernel.Release != 1 || kernel.Send != 2 || kernel.Read != 3 || kernel.Add != 4 || kernel.Drop != 5 || kernel.Change != 6 {
		t.Error("the numbers of the Kinds are others")
	}
}

// P21.2: each Kind takes what the document names for it, and the rest of the request does not matter.
func TestWhatDoesNotMatter(t *testing.T) {
	s, x, bad := at(busy(), 40), with(1, 200, 200), wrongTasks()[14]
	s.Parts[1].Jobs = nil
	for _, n := range append(ends(), -1, 0, 1) {
		for _, z := range []struct{ plain, other cmd }{
			{release(0, 1, 2), cmd{Part: 0, Kind: 1, I: 1, V: 2, T: bad}},
			{send(1, 1, 5), cmd{Part: 1, Kind: 2, I: 1, V: 5, T: bad}},
			{read(1, 0), cmd{Part: 1, Kind: 3, I: 0, V: n, T: bad}},
			{add(0, x), cmd{Part: 0, Kind: 4, I: n, V: n, T: x}},
			{drop(0, 1), cmd{Part: 0, Kind: 5, I: 1, V: n, T: bad}},
			{change(0, 1, x), cmd{Part: 0, Kind: 6, I: 1, V: n, T: x}},
		} {
			a, b := check(t, s, do(z.plain)), check(t, s, do(z.other))
			if !a.equal(b) {
				t.Errorf("%+v: %+v, and %+v: %+v", z.plain, a, z.other, b)
			}
		}
	}
}

// P21.2: Release at the current time, for each task, with each number of ticks that a job may want.
func TestRelease(t *testing.T) {
	for _, now := range []int{0, 1, 7, 8, 19, lastTime - 1, lastTime} {
		s := at(booted(t, full()), now)
		for p := range s.Parts {
			for i := range s.Parts[p].Tasks {
				for _, want := range []int{1, 2, api.MaxTime - 1, api.MaxTime} {
					released(t, s, p, i, want)
				}
				for _, want := range append(ends(), -1, 0, api.MaxTime+1) {
					refused(t, s, release(p, i, want), api.ErrArg)
				}
			}
			for _, i := range append(ends(), -2, -1, api.MaxTasks, api.MaxTasks+1) {
				refused(t, s, release(p, i, 1), api.ErrArg)
			}
		}
	}
	for _, i := range []int{-1, 0, 1} { // a partition without tasks
		refused(t, busy(), release(2, i, 1), api.ErrArg)
	}
}

// P21.2: releases that are too early, at each time up to the first one that is not; each is logged, at its time, in that partition's log.
func TestReleaseTooEarly(t *testing.T) {
	for _, first := range []int{0, 5, lastTime - 16} {
		s := released(t, at(booted(t, some()), first), 1, 1, 1)
		s.Parts[1].Jobs = nil
		for now := first; now < first+16; now++ {
			s = at(s, now)
			s = expect(t, s, release(1, 1, 1), 0, api.ErrEarly, logged(s, 1, api.Entry{At: now, Kind: api.Early, Task: 1}))
			released(t, s, 1, 0, 1)
			released(t, s, 0, 1, 1)
		}
		s = at(s, first+16)
		released(t, s, 1, 1, 1)
		s.Parts[1].Log = filled(api.MaxLog) // then nothing is logged
		refused(t, at(s, first+15), release(1, 1, 1), api.ErrEarly)
	}
}

// P21.2: with MaxJobs jobs there is no release, which is logged, but in another partition there is.
func TestReleaseWithoutRoom(t *testing.T) {
	for p := range api.MaxParts {
		s := at(booted(t, full()), 500)
		x := s.Parts[p]
		for k := range api.MaxJobs - 1 {
			i := k % api.MaxTasks
			x.Jobs = append(x.Jobs, api.Job{Task: i, At: 400 - k, Due: 400 - k + x.Tasks[i].D, Want: 1})
		}
		s = parted(s, p, x)
		s = released(t, s, p, 7, 1)
		s = expect(t, s, release(p, 6, 1), 0, api.ErrFull, logged(s, p, api.Entry{At: 500, Kind: api.Full, Task: 6}))
		s = expect(t, s, release(p, 7, 1), 0, api.ErrEarly, logged(s, p, api.Entry{At: 500, Kind: api.Early, Task: 7}))
		released(t, s, (p+1)%api.MaxParts, 6, 1)
		x = s.Parts[p]
		x.Log = filled(api.MaxLog)
		refused(t, parted(s, p, x), release(p, 6, 1), api.ErrFull)
	}
}

// P21.2: a task that is leaving releases nothing, and nothing is logged; the others do.
func TestReleaseOfATaskThatIsLeaving(t *testing.T) {
	for p := range api.MaxParts {
		for i := range api.MaxTasks {
			s := dropped(t, at(booted(t, full()), 9), p, i)
			refused(t, s, release(p, i, 1), api.ErrState)
			refused(t, s, release(p, i, 0), api.ErrArg)
			released(t, s, p, (i+1)%api.MaxTasks, 1)
			released(t, s, (p+1)%api.MaxParts, i, 1)
		}
	}
}

// P21.2: Send and Read of each partition on each line: all that are not the sender, or the reader, are denied; lines that there are not.
func TestSendersAndReaders(t *testing.T) {
	s := booted(t, full())
	for i := range s.Lines {
		for p := range s.Parts {
			if p == s.Lines[i].Port.From {
				sent(t, s, i, 7)
			} else {
				refused(t, s, send(p, i, 7), api.ErrDeny)
			}
			if p == s.Lines[i].Port.To {
				refused(t, s, read(p, i), api.ErrNone)
				x := s.Lines[i]
				x.Got = holding(x.Port.Cap, 0, 5)
				taken(t, lined(s, i, x), i, 5)
			} else {
				refused(t, s, read(p, i), api.ErrDeny)
			}
		}
	}
	for _, s := range []state{s, busy(), booted(t, bare(3))} {
		for _, i := range append(ends(), -2, -1, len(s.Lines), len(s.Lines)+1) {
			for p := range s.Parts {
				refused(t, s, send(p, i, 7), api.ErrNone)
				refused(t, s, read(p, i), api.ErrNone)
			}
		}
	}
}

// P21.2: messages are any numbers; as many as the Cap are under way, and then it is ErrFull, whatever has been read.
func TestSend(t *testing.T) {
	for _, v := range append(ends(), -1, 0, 1) {
		s := booted(t, full())
		for i := range s.Lines {
			s := s
			for k := range s.Lines[i].Port.Cap {
				s = sent(t, s, i, v-k)
			}
			refused(t, s, send(i, i, v), api.ErrFull)
			refused(t, s, read(s.Lines[i].Port.To, i), api.ErrNone)
			sent(t, s, (i+1)%len(s.Lines), v)
		}
	}
	s := taken(t, busy(), 0, 31)
	s = sent(t, s, 0, 43)
	s = taken(t, s, 0, 32)
	refused(t, s, send(0, 0, 44), api.ErrFull)
	refused(t, s, read(1, 0), api.ErrNone)
	refused(t, s, send(1, 1, 44), api.ErrFull)
	refused(t, s, read(0, 1), api.ErrNone)
	s = taken(t, s, 2, 33)
	refused(t, s, read(0, 2), api.ErrNone)
}

// P21.2: a line to, or from, a partition that there is not, is one on which nobody reads, or sends.
func TestLinesOfNobody(t *testing.T) {
	s := booted(t, bare(2))
	s.Lines = lines{{Port: api.Port{From: 3, To: 2, Cap: 1}, Under: holding(1, 0), Got: holding(1, 0, 5)}}
	for p := range 2 {
		refused(t, s, send(p, 0, 7), api.ErrDeny)
		refused(t, s, read(p, 0), api.ErrDeny)
	}
	for p := 2; p < 4; p++ {
		refused(t, s, send(p, 0, 7), api.ErrNone)
		refused(t, s, read(p, 0), api.ErrNone)
	}
}

// P21.2: Add and Change use the interface of that partition: the same task fits one, and does not fit the others.
func TestTheInterfaceOfThatPartition(t *testing.T) {
	small, x := with(1, 40, 40), with(3, 16, 16)
	for p := range api.MaxParts {
		c := bare(api.MaxParts)
		for i := range c.Parts {
			c.Parts[i].Tasks = tasks{small}
		}
		c.Parts[p].Face.B = 5
		s := booted(t, c)
		for i := range s.Parts {
			added(t, s, i, small)
			dropped(t, s, i, 0)
			changed(t, s, i, 0, small)
			if i == p {
				added(t, s, i, x)
				changed(t, s, i, 0, x)
			} else {
				refused(t, s, add(i, x), api.ErrDeny)
				refused(t, s, change(i, 0, x), api.ErrDeny)
			}
		}
	}
}

// P21.2: Add, Drop and Change with each of their errors; in each partition.
func TestAddDropChange(t *testing.T) {
	x, large, much := with(1, 200, 200), with(1, 199, 199), with(150, 200, 200)
	for p := range api.MaxParts {
		c := full()
		s := booted(t, c) // MaxTasks
		refused(t, s, add(p, x), api.ErrFull)
		refused(t, s, change(p, 0, x), api.ErrFull)
		dropped(t, s, p, 0)
		dropped(t, s, p, 7)
		next := (p + 1) % api.MaxParts
		c.Parts[p].Tasks, c.Parts[next].Tasks = c.Parts[p].Tasks[:7], c.Parts[next].Tasks[:7]
		s = booted(t, c)
		for _, bad := range wrongTasks() {
			refused(t, s, add(p, bad), api.ErrArg)
			refused(t, s, change(p, 0, bad), api.ErrArg)
		}
		for _, i := range append(ends(), -2, -1, 7, 8) {
			refused(t, s, drop(p, i), api.ErrArg)
			refused(t, s, change(p, i, x), api.ErrArg)
		}
		for i := range 7 {
			gone := dropped(t, s, p, i)
			refused(t, gone, drop(p, i), api.ErrState)
			refused(t, gone, change(p, i, x), api.ErrState)
			added(t, gone, p, x)
			changed(t, s, p, i, x)
			changed(t, gone, p, (i+1)%7, x)
		}
		added(t, s, p, x)
		for _, bad := range []struct {
			x   api.Task
			err api.Errno
		}{{large, api.ErrLarge}, {much, api.ErrDeny}} {
			y := parted(s, p, part.State{Tasks: plain(1, 197, 197), Leaves: []bool{false}, Lasts: []int{-1}})
			if bad.err == api.ErrDeny {
				y = s
			}
			refused(t, y, add(p, bad.x), bad.err)
			refused(t, y, change(p, 0, bad.x), bad.err)
		}
		began := s.Parts[p]
		began.Jobs = jobs{{Task: 3, At: 0, Due: began.Tasks[3].D, Want: 9, Began: true}}
		s = parted(s, p, began)
		refused(t, s, add(p, x), api.ErrState)
		refused(t, s, change(p, 3, x), api.ErrState)
		dropped(t, s, p, 3)
		added(t, s, next, x) // where no job has begun
		changed(t, s, next, 0, x)
	}
}
