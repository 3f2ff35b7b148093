package world_test

import (
	"math"
	"slices"
	"testing"

	"remontoir/api"
	"remontoir/image"
	"remontoir/kernel"
	"remontoir/task"
	"remontoir/world"
)

type (
	config = api.Config
	parts  = []api.Part
	tasks  = []api.Task
	ports  = []api.Port
	entry  = api.Entry
	log    = []api.Entry
	cmd    = kernel.Cmd
	cmds   = []kernel.Cmd
	script = [][]kernel.Cmd
	saw    = world.Saw
	view   = world.View
)

// ends returns the numbers at the ends of int, and others far away from what is valid, some of which have a valid lowest byte.
func ends() []int {
	return []int{math.MinInt, math.MinInt + 1, -api.MaxNum, -1<<32 + 1, 1<<8 + 1, 1<<32 + 1, api.MaxNum, math.MaxInt - 1, math.MaxInt}
}

// with returns a task with sections, of the numbers taken in threes: Res, At, Len.
func with(c, d, t int, n ...int) api.Task {
	x := api.Task{C: c, D: d, T: t}
	for i := 0; i+2 < len(n); i += 3 {
		x.Secs = append(x.Secs, api.Sec{Res: n[i], At: n[i+1], Len: n[i+2]})
	}
	return x
}

func release(p, i, want int) cmd      { return cmd{Part: p, Kind: kernel.Release, I: i, V: want} }
func send(p, i, v int) cmd            { return cmd{Part: p, Kind: kernel.Send, I: i, V: v} }
func read(p, i int) cmd               { return cmd{Part: p, Kind: kernel.Read, I: i} }
func add(p int, t api.Task) cmd       { return cmd{Part: p, Kind: kernel.Add, T: t} }
func drop(p, i int) cmd               { return cmd{Part: p, Kind: kernel.Drop, I: i} }
func change(p, i int, t api.Task) cmd { return cmd{Part: p, Kind: kernel.Change, I: i, T: t} }

// all returns a request of each Kind.
func all(p, i, v int, t api.Task) cmds {
	var out cmds
	for kind := range 6 {
		out = append(out, cmd{Part: p, Kind: kind + 1, I: i, V: v, T: t})
	}
	return out
}

// ahead returns a script of n ticks with requests ahead of one of them.
func ahead(n, at int, l ...cmd) script {
	s := make(script, n)
	s[at] = l
	return s
}

// part returns a partition.
func part(p, b int, l ...api.Task) api.Part {
	return api.Part{Face: api.Face{P: p, B: b}, Tasks: l}
}

// pair returns two partitions with a task each that have every other tick, and a port from the first one to the other.
func pair() config {
	return config{
		Parts: parts{part(2, 1, with(1, 4, 4)), part(2, 1, with(1, 4, 4))},
		Ports: ports{{From: 0, To: 1, Cap: 2}},
	}
}

// layout says to whom each tick of the frame of some belongs.
var layout = [...]int{0, 1, 1, 1, 0, 2, -1, -1}

// some returns a system with partitions that have different interfaces, the last one without tasks, and with ports between them.
func some() config {
	return config{
		Parts: parts{
			part(4, 1, with(1, 8, 8), with(1, 16, 16)),
			part(8, 3, with(2, 16, 16, 0, 0, 2, 1, 1, 1), with(1, 13, 16, 0, 0, 1)),
			part(8, 1),
		},
		Ports: ports{{From: 0, To: 1, Cap: 2}, {From: 1, To: 0, Cap: 1}, {From: 2, To: 0, Cap: 4}},
	}
}

// full returns a system with as many partitions, tasks, and ports as there may be; all ticks belong to a partition.
func full() config {
	var c config
	for i := range api.MaxParts {
		p := part(4, 1)
		for j := range api.MaxTasks {
			p.Tasks = append(p.Tasks, with(1+i, 190+j, 200, j%api.MaxRes, i, 1))
		}
		c.Parts = append(c.Parts, p)
		c.Ports = append(c.Ports, api.Port{From: i, To: (i + 1) % api.MaxParts, Cap: 1 + i})
	}
	return c
}

// bare returns a system with n partitions that have no tasks, and these ports.
func bare(n int, l ...api.Port) config {
	return config{Parts: slices.Repeat(parts{part(8, 1)}, n), Ports: l}
}

// encoded returns the encoding of a system that is valid.
func encoded(t *testing.T, c config) []byte {
	t.Helper()
	b, err := image.Encode(c)
	if err != api.OK {
		t.Fatalf("Encode of %+v: %d", c, err)
	}
	return b
}

func sameView(a, b view) bool {
	return slices.Equal(a.Saws, b.Saws) && slices.Equal(a.Ran, b.Ran) && slices.Equal(a.Log, b.Log)
}

func sameViews(a, b []view) bool {
	return slices.EqualFunc(a, b, sameView)
}

func sameCmd(a, b cmd) bool {
	return a.Part == b.Part && a.Kind == b.Kind && a.I == b.I && a.V == b.V && task.Same(a.T, b.T)
}

// sameScript reports whether two scripts are equal, tick by tick.
func sameScript(a, b script) bool {
	return slices.EqualFunc(a, b, func(x, y cmds) bool { return slices.EqualFunc(x, y, sameCmd) })
}

// modelView is the document's word for one partition: its view of a system that receives a script.
func modelView(s kernel.State, l script, p int) view {
	var v view
	for at, requests := range l {
		for _, c := range requests {
			after, value, err := kernel.Do(s, c)
			if s = after; c.Part == p {
				v.Saws = append(v.Saws, saw{At: at, Value: value, Err: err})
			}
		}
		after, ran, err := kernel.Tick(s)
		if s = after; err != api.OK {
			panic("no tick")
		}
		v.Ran = append(v.Ran, ran[p])
	}
	v.Log = s.Parts[p].Log
	return v
}

// modelPlay is the document's word.
func modelPlay(b []byte, l script) ([]view, api.Errno) {
	c, _, err := image.Decode(b)
	if err != api.OK {
		return nil, err
	}
	s, err := kernel.Boot(c)
	if err != api.OK {
		return nil, err
	}
	if len(l) > 3000 {
		return nil, api.ErrLarge
	}
	for _, requests := range l {
		if len(requests) > 100 {
			return nil, api.ErrLarge
		}
	}
	var out []view
	for p := range c.Parts {
		out = append(out, modelView(s, l, p))
	}
	return out, api.OK
}

// shaped checks what all views have: for each request of their own, and each tick, what came of it.
func shaped(t *testing.T, v []view, l script) {
	t.Helper()
	for p, x := range v {
		if len(x.Ran) != len(l) || len(x.Log) > api.MaxLog {
			t.Fatalf("partition %d of a script of %d ticks: %+v", p, len(l), x)
		}
		var times []int
		for at, requests := range l {
			for _, c := range requests {
				if c.Part == p {
					times = append(times, at)
				}
			}
		}
		if !slices.EqualFunc(times, x.Saws, func(at int, s saw) bool { return at == s.At }) {
			t.Fatalf("partition %d requests at %v: %+v", p, times, x.Saws)
		}
		for _, s := range x.Saws {
			if s.Err != api.OK && s.Value != 0 {
				t.Fatalf("partition %d: the number %d beside error %d", p, s.Value, s.Err)
			}
		}
	}
}

// check checks what is returned for any bytes and any script, and returns it.
func check(t *testing.T, b []byte, l script) ([]view, api.Errno) {
	t.Helper()
	got, err := world.Play(b, l)
	want, wantErr := modelPlay(b, l)
	if !sameViews(got, want) || err != wantErr {
		t.Fatalf("Play of %v, %+v:\n%+v, %d, want\n%+v, %d", b, l, got, err, want, wantErr)
	}
	shaped(t, got, l)
	if c, _, _ := image.Decode(b); err == api.OK {
		if plain := plainPlay(c, l); !sameViews(got, plain) {
			t.Fatalf("Play of %+v, %+v:\n%+v, and by the words of all chapters\n%+v", c, l, got, plain)
		}
	}
	return got, err
}

// played checks that there are views of a system that receives a script, and returns them.
func played(t *testing.T, c config, l script) []view {
	t.Helper()
	got, err := check(t, encoded(t, c), l)
	if err != api.OK || len(got) != len(c.Parts) {
		t.Fatalf("Play of %+v, %+v: %+v, %d", c, l, got, err)
	}
	return got
}

// unplayed checks that there is the error, and no view.
func unplayed(t *testing.T, b []byte, l script, err api.Errno) {
	t.Helper()
	if got, e := check(t, b, l); e != err || got != nil {
		t.Fatalf("Play of %v, %d ticks: %+v, %d, want %d", b, len(l), got, e, err)
	}
}

// sawAll checks what came of all the requests of a partition.
func sawAll(t *testing.T, v view, want ...saw) {
	t.Helper()
	if !slices.Equal(v.Saws, want) {
		t.Errorf("%+v, want %+v", v.Saws, want)
	}
}

// The example of the chapter, also with a script.
func TestNoPartitions(t *testing.T) {
	for _, l := range []script{nil, {}, {nil}, make(script, api.MaxBound), {{release(0, 0, 1), read(-1, 0), send(1, 0, 4)}, {}, {add(0, with(1, 4, 4))}}} {
		if got := played(t, config{}, l); len(got) != 0 {
			t.Errorf("%+v", got)
		}
	}
	if got, err := world.Play([]byte{0x54, 0x4b, 0x31, 0, 0}, nil); len(got) != 0 || err != api.OK {
		t.Errorf("%+v, %d", got, err)
	}
}

// P22.1: the error of image.Decode, with any script.
func TestBytesThatAreNoImage(t *testing.T) {
	scripts := []script{nil, ahead(3, 1, release(0, 0, 1), read(1, 0)), make(script, api.MaxBound+1), {make(cmds, 101)}}
	for _, l := range scripts {
		unplayed(t, nil, l, api.ErrMore)
		unplayed(t, []byte{}, l, api.ErrMore)
		for _, c := range []config{{}, pair(), some(), full()} {
			b := encoded(t, c)
			for n := range b {
				unplayed(t, b[:n], l, api.ErrMore)
			}
			for i := range 3 {
				for _, x := range []byte{0, b[i] - 1, b[i] + 1, 255} {
					wrong := slices.Clone(b)
					wrong[i] = x
					unplayed(t, wrong, l, api.ErrForm)
				}
			}
			for _, x := range []byte{0, 1, 255} {
				unplayed(t, append(slices.Clone(b), x), l, api.ErrForm)
			}
			unplayed(t, append(slices.Clone(b), b...), l, api.ErrForm)
		}
		// Systems that are not valid: too many partitions, no P, a B above P, a task without C, a section too long, a port to its own partition, and one to none.
		for _, rest := range [][]byte{
			{5, 8, 1, 0, 8, 1, 0, 8, 1, 0, 8, 1, 0, 8, 1, 0, 0},
			{1, 0, 0, 0, 0},
			{1, 4, 5, 0, 0},
			{1, 4, 1, 1, 0, 8, 8, 0, 0},
			{1, 4, 2, 1, 1, 8, 8, 1, 0, 0, 2, 0},
			{2, 8, 1, 0, 8, 1, 0, 1, 1, 1, 1},
			{2, 8, 1, 0, 8, 1, 0, 1, 0, 2, 1},
			{0, 1, 0, 1, 1},
		} {
			unplayed(t, append([]byte("TK1"), rest...), l, api.ErrArg)
		}
	}
}

// P22.1: the error of kernel.Boot, with any script.
func TestSystemsThatDoNotBoot(t *testing.T) {
	tooMuch := with(2, 4, 4)
	tooLong := tasks{with(1, 197, 197), with(1, 199, 199)}
	for _, x := range []struct {
		c   config
		err api.Errno
	}{
		// Of the layout: a frame that is too large, and more ticks than there are.
		{config{Parts: parts{part(16, 1), part(17, 1)}}, api.ErrLarge},
		{config{Parts: parts{part(1, 1), part(1, 1)}}, api.ErrDeny},
		{config{Parts: parts{part(2, 1), part(4, 2), part(8, 1)}}, api.ErrDeny},
		// Of a partition: tasks that don't fit, and an end that is too large.
		{config{Parts: parts{part(2, 1, tooMuch)}}, api.ErrDeny},
		{config{Parts: parts{part(2, 1), part(2, 1, tooLong...)}}, api.ErrLarge},
		// Which one, where there are several.
		{config{Parts: parts{part(16, 1, tooMuch), part(17, 1)}}, api.ErrLarge},
		{config{Parts: parts{part(1, 1, tooLong...), part(1, 1)}}, api.ErrDeny},
		{config{Parts: parts{part(4, 1, tooMuch), part(4, 1, tooLong...)}}, api.ErrDeny},
		{config{Parts: parts{part(4, 1, tooLong...), part(4, 1, tooMuch)}}, api.ErrLarge},
	} {
		for _, l := range []script{nil, ahead(3, 1, release(0, 0, 1)), make(script, api.MaxBound+1), {{}, make(cmds, 101)}} {
			unplayed(t, encoded(t, x.c), l, x.err)
		}
	}
}

// P22.1: a script that is none, of systems that boot.
func TestScriptsThatAreNone(t *testing.T) {
	c := release(0, 0, 1)
	for _, system := range []config{{}, bare(1), pair(), full()} {
		b := encoded(t, system)
		for _, n := range []int{api.MaxBound + 1, api.MaxBound + 2, 2 * api.MaxBound, 1 << 16} {
			unplayed(t, b, make(script, n), api.ErrLarge)
			unplayed(t, b, ahead(n, n-1, c), api.ErrLarge)
		}
		for _, n := range []int{1, 2, 9, api.MaxBound} {
			for _, at := range []int{0, n / 2, n - 1} {
				for _, many := range []int{101, 102, 200, 1 << 16} {
					unplayed(t, b, ahead(n, at, slices.Repeat(cmds{c}, many)...), api.ErrLarge)
					unplayed(t, b, ahead(n, at, make(cmds, many)...), api.ErrLarge)
				}
			}
		}
		both := make(script, api.MaxBound+1)
		both[7] = make(cmds, 101)
		unplayed(t, b, both, api.ErrLarge)
	}
}

// P22.1: scripts of no ticks, of one, and of as many as there may be.
func TestHowManyTicks(t *testing.T) {
	for _, c := range []config{{}, bare(1), bare(4), pair(), some(), full()} {
		for _, n := range []int{0, 1, 2, api.MaxBound - 1, api.MaxBound} {
			for p, v := range played(t, c, make(script, n)) {
				if len(v.Saws) != 0 || len(v.Log) != 0 || !slices.Equal(v.Ran, slices.Repeat([]int{-1}, n)) {
					t.Errorf("%d ticks of %+v, partition %d: %+v", n, c, p, v)
				}
			}
		}
	}
	// The last tick is one like all others: the time of the request is that of the tick.
	v := played(t, pair(), ahead(api.MaxBound, api.MaxBound-2, release(0, 0, 1), read(1, 0)))
	sawAll(t, v[0], saw{At: 2998})
	sawAll(t, v[1], saw{At: 2998, Err: api.ErrNone})
	if v[0].Ran[2998] != 0 || v[0].Ran[2999] != -1 || !slices.Equal(v[0].Log, log{{At: 2998, Kind: api.Released}, {At: 2998, Kind: api.Done}}) {
		t.Errorf("%+v", v[0].Log)
	}
	v = played(t, pair(), ahead(api.MaxBound, api.MaxBound-1, release(0, 0, 1), release(1, 0, 1)))
	if v[0].Ran[2999] != -1 || v[1].Ran[2999] != 0 || len(v[0].Log) != 1 || len(v[1].Log) != 2 || v[1].Log[1] != (entry{At: 2999, Kind: api.Done}) {
		t.Errorf("%+v, %+v", v[0].Log, v[1].Log)
	}
}

// P22.1: ticks with no request, with one, and with as many as there may be.
func TestHowManyRequests(t *testing.T) {
	for _, n := range []int{1, 2, 9, api.MaxBound} {
		for _, at := range []int{0, n / 2, n - 1} {
			for _, many := range []int{0, 1, 99, 100} {
				var l cmds
				for i := range many {
					l = append(l, release(i%3, 0, 1))
				}
				v := played(t, pair(), ahead(n, at, l...))
				if len(v[0].Saws) != (many+2)/3 || len(v[1].Saws) != (many+1)/3 {
					t.Errorf("%d requests: %d, %d", many, len(v[0].Saws), len(v[1].Saws))
				}
				for i, s := range v[0].Saws {
					if want := (saw{At: at, Err: api.ErrEarly}); i > 0 && s != want || i == 0 && s != (saw{At: at}) {
						t.Errorf("request %d of %d: %+v", i, many, s)
					}
				}
			}
		}
	}
	every := make(script, 40)
	for i := range every {
		every[i] = slices.Repeat(cmds{release(0, 0, 1), send(0, 0, i), read(1, 0), drop(1, 3)}, 25)
	}
	if v := played(t, pair(), every); len(v[0].Saws) != 2000 || len(v[1].Saws) != 2000 {
		t.Errorf("%d, %d", len(v[0].Saws), len(v[1].Saws))
	}
}

// P22.1: how many partitions, and how many ports.
func TestHowManyPartitionsAndPorts(t *testing.T) {
	for n := range api.MaxParts + 1 {
		for _, many := range []int{0, 1, api.MaxPorts} {
			c := config{Parts: slices.Repeat(parts{part(4, 1, with(1, 8, 8))}, n)}
			for i := 0; n > 1 && i < many; i++ {
				c.Ports = append(c.Ports, api.Port{From: i % n, To: (i + 1) % n, Cap: 1 + i%api.MaxQueue})
			}
			l := make(script, 9)
			for p := range n {
				l[0] = append(l[0], release(p, 0, 1), send(p, p, 10+p))
				l[1] = append(l[1], read((p+1)%n, p))
			}
			for p, v := range played(t, c, l) {
				sent, got := saw{At: 0, Err: api.ErrNone}, saw{At: 1, Err: api.ErrNone}
				if p < len(c.Ports) {
					sent.Err = api.OK
				}
				if from := (p + n - 1) % n; from < len(c.Ports) {
					got = saw{At: 1, Value: 10 + from}
				}
				sawAll(t, v, saw{At: 0}, sent, got)
				ran := slices.Repeat([]int{-1}, 9)
				ran[p] = 0
				if !slices.Equal(v.Ran, ran) || !slices.Equal(v.Log, log{{At: 0, Kind: api.Released}, {At: p, Kind: api.Done}}) {
					t.Errorf("partition %d of %d: %+v", p, n, v)
				}
			}
		}
	}
}

// P22.1: what a partition requests that there is not is in no view, and changes nothing.
func TestPartitionsThatThereAreNot(t *testing.T) {
	l := script{{release(0, 0, 1), send(0, 0, 4), read(1, 0)}, {}, {release(1, 0, 2)}}
	for _, c := range []config{bare(1), pair(), some(), full()} {
		base := played(t, c, l)
		for _, p := range append(ends(), -1, len(c.Parts), len(c.Parts)+1, 8) {
			more := make(script, len(l))
			for i := range l {
				more[i] = slices.Concat(all(p, 0, 1, with(1, 200, 200)), l[i], all(p, 1, 1, with(1, 200, 200)), cmds{{Part: p, Kind: 9}})
			}
			if got := played(t, c, more); !sameViews(got, base) {
				t.Errorf("requests of %d: %+v, without them %+v", p, got, base)
			}
		}
		for p := range c.Parts {
			for i, v := range played(t, c, script{{drop(p, 8), drop(-1, 8), drop(len(c.Parts), 8)}}) {
				if i == p {
					sawAll(t, v, saw{Err: api.ErrArg})
				} else {
					sawAll(t, v)
				}
			}
		}
	}
}

// P22.1: each Kind of a partition that there is, and Kinds that there are not.
func TestEachKind(t *testing.T) {
	for p := range 3 {
		for _, kind := range append(ends(), -1, 0, 7, 8, 1<<8+2, 1<<32+1) {
			got := played(t, some(), ahead(4, 2, cmd{Part: p, Kind: kind, V: 1, T: with(1, 200, 200)}, cmd{Part: p, Kind: kind}))
			sawAll(t, got[p], saw{At: 2, Err: api.ErrNone}, saw{At: 2, Err: api.ErrNone})
			for i, v := range got {
				if i != p && len(v.Saws) != 0 || len(v.Log) != 0 {
					t.Errorf("Kind %d of partition %d: partition %d saw %+v", kind, p, i, v)
				}
			}
		}
	}
	got := played(t, some(), script{all(0, 0, 1, with(1, 200, 200)), nil, all(1, 0, 1, with(1, 200, 200)), nil, all(2, 2, 1, with(1, 200, 200))})
	sawAll(t, got[0], saw{}, saw{}, saw{Err: api.ErrDeny}, saw{}, saw{}, saw{Err: api.ErrState})
	sawAll(t, got[1], saw{At: 2}, saw{At: 2, Err: api.ErrDeny}, saw{At: 2, Value: 1}, saw{At: 2}, saw{At: 2}, saw{At: 2, Err: api.ErrState})
	sawAll(t, got[2], saw{At: 4, Err: api.ErrArg}, saw{At: 4}, saw{At: 4, Err: api.ErrDeny}, saw{At: 4}, saw{At: 4, Err: api.ErrArg}, saw{At: 4, Err: api.ErrArg})
}

// P22.1: several requests of several partitions ahead of one tick are made in their order.
func TestTheOrderOfRequests(t *testing.T) {
	// What comes first decides what there is room for, and which task leaves.
	l := script{
		{send(0, 0, 1), read(1, 0), send(0, 0, 2), release(1, 0, 1), send(0, 0, 3), drop(0, 0), release(0, 0, 1)},
		{read(1, 0), release(0, 0, 1), read(1, 0), drop(1, 0), read(1, 0), add(0, with(1, 8, 8)), release(1, 0, 1), release(0, 0, 1)},
	}
	got := played(t, pair(), l)
	sawAll(t, got[0], saw{}, saw{}, saw{Err: api.ErrFull}, saw{}, saw{Err: api.ErrState}, saw{At: 1, Err: api.ErrArg}, saw{At: 1}, saw{At: 1})
	sawAll(t, got[1], saw{Err: api.ErrNone}, saw{}, saw{At: 1, Value: 1}, saw{At: 1, Value: 2}, saw{At: 1}, saw{At: 1, Err: api.ErrNone}, saw{At: 1, Err: api.ErrState})
	if !slices.Equal(got[0].Log, log{{At: 0, Kind: api.Left}, {At: 1, Kind: api.Released}}) || !slices.Equal(got[1].Log, log{{At: 0, Kind: api.Released}, {At: 1, Kind: api.Done}, {At: 1, Kind: api.Left}}) {
		t.Errorf("%+v", got)
	}
	// In another order, other results.
	got = played(t, pair(), script{{release(0, 0, 1), drop(0, 0), drop(0, 0)}, {}})
	sawAll(t, got[0], saw{}, saw{}, saw{Err: api.ErrState})
	if !slices.Equal(got[0].Log, log{{At: 0, Kind: api.Released}, {At: 0, Kind: api.Done}, {At: 0, Kind: api.Left}}) || !slices.Equal(got[0].Ran, []int{0, -1}) {
		t.Errorf("%+v", got[0])
	}
}

// P22.1: requests are made at the time of the tick that they stand ahead of.
func TestTheTimeOfRequests(t *testing.T) {
	for n := range 12 {
		l := make(script, 24)
		l[n] = cmds{release(1, 0, 1)}
		for at := range l {
			l[at] = append(l[at], release(0, 0, 1))
		}
		got := played(t, pair(), l)
		var want log
		for at := range l {
			// The task has T 4: each fourth request is permitted, and its job runs at once, as the tick is even.
			if at%4 == 0 {
				want = append(want, entry{At: at, Kind: api.Released}, entry{At: at, Kind: api.Done})
			} else {
				want = append(want, entry{At: at, Kind: api.Early})
			}
			if s := got[0].Saws[at]; s.At != at || (s.Err == api.OK) != (at%4 == 0) {
				t.Errorf("the request at %d: %+v", at, s)
			}
		}
		if !slices.Equal(got[0].Log, want) {
			t.Errorf("%+v, want %+v", got[0].Log, want)
		}
		sawAll(t, got[1], saw{At: n})
		if ran := n + 1 - n%2; got[1].Ran[ran] != 0 || !slices.Equal(got[1].Log, log{{At: n, Kind: api.Released}, {At: ran, Kind: api.Done}}) {
			t.Errorf("released at %d: %+v", n, got[1])
		}
	}
	// A message that is sent ahead of the first tick of a frame is there ahead of the next tick; any later one ahead of the one behind the next frame's first.
	for n := range 10 {
		l := make(script, 24)
		l[n] = cmds{send(0, 0, 5)}
		for at := range l {
			l[at] = append(l[at], read(1, 0))
		}
		for at, s := range played(t, some(), l)[1].Saws {
			want := saw{At: at, Err: api.ErrNone}
			if at == (n+7)/8*8+1 {
				want = saw{At: at, Value: 5}
			}
			if s != want {
				t.Errorf("sent at %d: %+v", n, s)
			}
		}
	}
}

// P22.1: Read gives messages, of any number.
func TestMessages(t *testing.T) {
	numbers := append(ends(), 0, 1, -1, 7, 1<<62)
	for _, v := range numbers {
		for _, w := range numbers {
			got := played(t, pair(), script{{send(0, 0, v), send(0, 0, w), send(0, 0, 3)}, {read(1, 0), read(1, 0), read(1, 0)}})
			sawAll(t, got[0], saw{}, saw{}, saw{Err: api.ErrFull})
			sawAll(t, got[1], saw{At: 1, Value: v}, saw{At: 1, Value: w}, saw{At: 1, Err: api.ErrNone})
		}
	}
	// What finds no room any more when it arrives takes that of the first one.
	got := played(t, pair(), script{{send(0, 0, 1), send(0, 0, 2)}, {send(0, 0, 3)}, {}, {read(1, 0), read(1, 0), read(1, 0)}})
	sawAll(t, got[1], saw{At: 3, Value: 2}, saw{At: 3, Value: 3}, saw{At: 3, Err: api.ErrNone})
}

// A result is a request, and the error that it is to have.
type result struct {
	c   cmd
	err api.Errno
}

// P22.1: each error that a request can have is in the view of its partition, with the number 0.
func TestErrors(t *testing.T) {
	small, eight := with(1, 200, 200), full().Parts[0].Tasks
	start := cmds{send(0, 0, 7), release(0, 0, 9)}
	for _, x := range []struct {
		c       config
		results []result
	}{
		{pair(), []result{
			{release(0, 1, 1), api.ErrArg}, {release(0, -1, 1), api.ErrArg}, {release(0, 0, 0), api.ErrArg}, {release(0, 0, 201), api.ErrArg}, {release(0, 0, 1), api.ErrEarly},
			{send(0, 1, 5), api.ErrNone}, {send(0, -1, 5), api.ErrNone}, {send(1, 0, 5), api.ErrDeny},
			{read(1, 1), api.ErrNone}, {read(0, 0), api.ErrDeny}, {read(1, -1), api.ErrNone},
			{add(1, with(0, 4, 4)), api.ErrArg}, {add(1, with(2, 4, 4)), api.ErrDeny}, {add(1, with(1, 197, 197)), api.OK}, {add(1, with(1, 199, 199)), api.ErrLarge},
			{drop(1, 2), api.ErrArg}, {drop(1, -1), api.ErrArg},
			{change(1, 2, small), api.ErrArg}, {change(1, 0, with(0, 4, 4)), api.ErrArg}, {change(1, 0, with(2, 4, 4)), api.ErrDeny}, {change(1, 0, with(1, 199, 199)), api.ErrLarge},
			{drop(1, 0), api.OK}, {drop(1, 0), api.ErrState}, {release(1, 0, 1), api.ErrState}, {change(1, 0, small), api.ErrState},
			{cmd{Part: 0, Kind: 0}, api.ErrNone}, {cmd{Part: 1, Kind: 7}, api.ErrNone},
		}},
		// Of the last two the job has begun: what is requested is refused before it is looked at whether it fits.
		{config{Parts: parts{part(2, 1, with(2, 8, 8)), part(2, 1)}, Ports: ports{{From: 0, To: 1, Cap: 1}}}, []result{
			{send(0, 0, 1), api.OK}, {send(0, 0, 1), api.ErrFull}, {add(0, small), api.ErrState}, {add(0, with(8, 8, 8)), api.ErrState}, {change(0, 0, small), api.ErrState},
		}},
		{config{Parts: parts{part(4, 1, eight...), part(4, 1, eight...)}, Ports: ports{{From: 0, To: 1, Cap: 1}}}, []result{
			{add(1, small), api.ErrFull}, {change(1, 0, small), api.ErrFull}, {add(0, small), api.ErrFull},
		}},
	} {
		var asked cmds
		for _, r := range x.results {
			asked = append(asked, r.c)
		}
		got := played(t, x.c, script{start, asked})
		for p, v := range got {
			var want []saw
			for range len(start) * (1 - p) {
				want = append(want, saw{})
			}
			for _, r := range x.results {
				if r.c.Part == p {
					want = append(want, saw{At: 1, Err: r.err})
				}
			}
			sawAll(t, v, want...)
		}
	}
}

// P22.1: for each tick the number of the task that ran; -1, if none did.
func TestWhichTaskRan(t *testing.T) {
	l := make(script, 20)
	l[0] = cmds{release(0, 1, 1), release(1, 0, 2), release(2, 0, 1)}
	l[1] = cmds{release(0, 0, 1)}
	l[2] = cmds{release(1, 1, 1)}
	got := played(t, some(), l)
	var want [3][]int
	for p := range want {
		want[p] = slices.Repeat([]int{-1}, 20)
	}
	want[0][0], want[0][4] = 1, 0
	// Task 0 has resource 0 until its end, which task 1 needs, though it is due earlier.
	want[1][1], want[1][2], want[1][3] = 0, 0, 1
	for p, v := range got {
		if !slices.Equal(v.Ran, want[p]) {
			t.Errorf("partition %d: %v, want %v", p, v.Ran, want[p])
		}
	}
	// The number is the one that the task had before it left.
	got = played(t, some(), ahead(8, 0, release(0, 1, 1), drop(0, 0), drop(0, 1)))
	if got[0].Ran[0] != 1 || !slices.Equal(got[0].Log, log{{At: 0, Kind: api.Released, Task: 1}, {At: 0, Kind: api.Done, Task: 1}, {At: 0, Kind: api.Left, Task: 1}, {At: 0, Kind: api.Left}}) {
		t.Errorf("%+v", got[0])
	}
	// All ticks, if there is always a job.
	busy := make(script, 64)
	for i := range busy {
		busy[i] = cmds{release(0, 0, 9), release(0, 1, 9)}
	}
	c := config{Parts: parts{part(1, 1, with(1, 2, 2), with(2, 4, 4))}}
	for at, i := range played(t, c, busy)[0].Ran {
		if i != []int{0, 1, 0, 1}[at%4] {
			t.Errorf("at %d task %d", at, i)
		}
	}
}

// P22.1: logs with entries of each kind that can be there.
func TestLogs(t *testing.T) {
	l := make(script, 30)
	l[0] = cmds{release(0, 0, 1), release(0, 0, 1)}
	l[6] = cmds{release(0, 0, 2), add(0, with(1, 20, 20))}
	l[9] = cmds{release(0, 1, 1), change(0, 0, with(1, 40, 40))}
	l[12] = cmds{drop(0, 0), release(0, 0, 1), release(0, 1, 9)}
	got := played(t, pair(), l)
	want := log{
		{At: 0, Kind: api.Released}, {At: 0, Kind: api.Early}, {At: 0, Kind: api.Done},
		{At: 6, Kind: api.Released}, {At: 6, Kind: api.Cut},
		{At: 9, Kind: api.Released, Task: 1}, {At: 10, Kind: api.Done, Task: 1}, {At: 10, Kind: api.Left},
		{At: 12, Kind: api.Released, Task: 1}, {At: 12, Kind: api.Cut, Task: 1}, {At: 12, Kind: api.Left},
	}
	if !slices.Equal(got[0].Log, want) || len(got[1].Log) != 0 {
		t.Errorf("%+v", got)
	}
	sawAll(t, got[0], saw{}, saw{Err: api.ErrEarly}, saw{At: 6}, saw{At: 6}, saw{At: 9}, saw{At: 9}, saw{At: 12}, saw{At: 12, Err: api.ErrState}, saw{At: 12})
}

// P22.1: a log that is full does not change any more, but results are seen as before.
func TestFullLogs(t *testing.T) {
	for _, n := range []int{19, 20, 21, 30, 60} {
		l := make(script, n)
		for i := range l {
			l[i] = slices.Repeat(cmds{release(0, 0, 1)}, 100)
		}
		got := played(t, config{Parts: parts{part(1, 1, with(1, 200, 200))}}, l)
		// One of them is permitted, and its job is done, so there is an entry more.
		if v := got[0]; len(v.Saws) != 100*n || len(v.Log) != min(100*n+1, api.MaxLog) || v.Log[1] != (entry{Kind: api.Early}) || v.Log[100] != (entry{Kind: api.Done}) || v.Ran[0] != 0 {
			t.Errorf("%d ticks: %d results, %d entries", n, len(v.Saws), len(v.Log))
		}
		if v := got[0]; v.Saws[100*n-1] != (saw{At: n - 1, Err: api.ErrEarly}) {
			t.Errorf("%+v", v.Saws[100*n-1])
		}
	}
	l := make(script, 30)
	for i := range l {
		l[i] = slices.Repeat(cmds{release(0, 0, 1)}, 99)
	}
	l[25] = cmds{release(1, 0, 1)}
	l[28] = cmds{drop(0, 0)}
	got := played(t, pair(), l)
	if e := got[0].Log[api.MaxLog-1]; len(got[0].Log) != api.MaxLog || e.Kind != api.Early || e.At > 25 || len(got[1].Log) != 2 {
		t.Errorf("%+v, %d entries", e, len(got[0].Log))
	}
	if v := got[0]; v.Saws[len(v.Saws)-1] != (saw{At: 29, Err: api.ErrArg}) {
		t.Errorf("the task has not left: %+v", v.Saws[len(v.Saws)-1])
	}
}

// P22.1: nil and empty scripts and ticks.
func TestNoScriptAndAnEmptyOne(t *testing.T) {
	for _, c := range []config{{}, bare(1), pair(), some(), full()} {
		b := encoded(t, c)
		for _, l := range [][2]script{{nil, {}}, {{nil}, {{}}}, {{nil, nil, {release(0, 0, 1)}}, {{}, {}, {release(0, 0, 1)}}}} {
			x, err := check(t, b, l[0])
			y, other := check(t, b, l[1])
			if !sameViews(x, y) || err != api.OK || other != api.OK {
				t.Errorf("%+v, %d, and %+v, %d", x, err, y, other)
			}
		}
	}
}
