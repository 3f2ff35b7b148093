package kernel_test

import (
	"slices"
	"testing"

	"remontoir/api"
	"remontoir/kernel"
	"remontoir/part"
	"remontoir/ring"
	"remontoir/table"
)

// long returns the state of a partition with one task, and a job of it that was released at a time, and wants all ticks up to its Due.
func long(from int) part.State {
	return part.State{Tasks: plain(200, 200, 200), Leaves: []bool{false}, Lasts: []int{from}, Jobs: jobs{{Task: 0, At: from, Due: from + 200, Want: 200}}}
}

// frames returns the times at which some frames of that length begin: the first ones, and the last whole one that there is.
func frames(length int) []int {
	last := lastTime - lastTime%length - length
	return []int{0, length, 2 * length, 100 * length, last}
}

// due returns the state of a partition with a job that is due at a time, one that is due behind it, and a task that is leaving.
func due(now int) part.State {
	return part.State{
		Tasks: plain(1, 4, 8, 3, 8, 8), Leaves: []bool{false, true}, Lasts: []int{now - 4, now - 7}, Log: filled(3),
		Jobs: jobs{{Task: 1, At: now - 7, Due: now + 1, Want: 3}, {Task: 0, At: now - 4, Due: now, Want: 1}},
	}
}

// P21.3, P21.4: where all partitions have jobs, it is that of the partition to which the tick belongs that runs, and no other one; in a tick that belongs to nobody none does.
func TestTheTicksOfTheTable(t *testing.T) {
	for _, from := range frames(len(layout)) {
		for place, owner := range layout {
			s := at(booted(t, some()), from+place)
			want := []int{-1, -1, -1}
			for i := range s.Parts {
				s = parted(s, i, long(s.Now))
			}
			if owner >= 0 {
				want[owner] = 0
			}
			after := ticked(t, s, want...)
			for i, p := range after.Parts {
				had := 0
				if i == owner {
					had = 1
				}
				if j := p.Jobs[0]; len(p.Jobs) != 1 || j.Had != had || j.Began != (had == 1) || len(p.Log) != 0 {
					t.Errorf("at %d, the tick of %d: partition %d is %+v", s.Now, owner, i, p)
				}
			}
		}
	}
}

// P21.3: ticks in a row, frame after frame: each partition gets all its own.
func TestTicksInARow(t *testing.T) {
	s := booted(t, some())
	for i := range s.Parts {
		s = parted(s, i, long(0))
	}
	for now := range 20 * len(layout) {
		want := []int{-1, -1, -1}
		if owner := layout[now%len(layout)]; owner >= 0 {
			want[owner] = 0
		}
		s = ticked(t, s, want...)
	}
	for i, had := range []int{40, 60, 20} {
		if s.Parts[i].Jobs[0].Had != had {
			t.Errorf("partition %d had %d ticks", i, s.Parts[i].Jobs[0].Had)
		}
	}
}

// P21.3: frames of one tick, which belongs to a partition, to nobody, or to one that there is not.
func TestFramesOfOneTick(t *testing.T) {
	for owner := -1; owner < api.MaxParts; owner++ {
		s := booted(t, bare(2))
		s.Table = table.Table{Frame: 1}
		if owner >= 0 {
			s.Table.Windows = []api.Window{{Part: owner, From: 0, Len: 1}}
		}
		s = parted(parted(s, 0, long(0)), 1, long(0))
		want := []int{-1, -1}
		if owner == 0 || owner == 1 {
			want[owner] = 0
		}
		for range 5 {
			s = ticked(t, s, want...)
		}
	}
	s := parted(booted(t, faced(api.Face{P: 1, B: 1})), 0, long(0))
	for range 5 {
		s = ticked(t, s, 0)
	}
	s = booted(t, config{})
	for range 5 {
		s = ticked(t, s)
	}
}

// P21.3: at a multiple of the frame, and at no other time, all that is under way arrives; what there is no room for is lost.
func TestDelivery(t *testing.T) {
	for _, length := range []int{1, 2, 7, 8, api.MaxFrame} {
		for _, from := range frames(length) {
			for place := range length + 2 {
				s := at(busy(), from+place)
				s.Table = table.Table{Frame: length}
				got := check(t, s, tick()).s.Lines
				under, arrived := [][]int{{41}, {42}, nil}, [][]int{{31, 32}, nil, {33}}
				if place%length == 0 {
					under, arrived = [][]int{nil, nil, nil}, [][]int{{32, 41}, {42}, {33}}
				}
				for i, x := range got {
					if x.Port != s.Lines[i].Port || !slices.Equal(ring.List(x.Under), under[i]) || !slices.Equal(ring.List(x.Got), arrived[i]) {
						t.Errorf("at %d of frames of %d: line %d is %+v", s.Now, length, i, x)
					}
				}
			}
		}
	}
}

// P21.3: a tick of each partition is made at its time, also where it does not belong to it: what is due is missed, and what is leaving is removed when there are no jobs.
func TestWhatIsNotProvided(t *testing.T) {
	for _, from := range frames(len(layout))[1:] {
		for place, owner := range layout {
			s := at(booted(t, some()), from+place)
			now := s.Now
			for i := range s.Parts {
				s = parted(s, i, due(now))
			}
			want := []int{-1, -1, -1}
			if owner >= 0 {
				want[owner] = 1
			}
			s = ticked(t, s, want...)
			for i, p := range s.Parts {
				if len(p.Jobs) != 1 || p.Jobs[0].Task != 1 || (p.Jobs[0].Had == 1) != (i == owner) || !slices.Equal(p.Log[3:], log{{At: now, Kind: api.Missed, Task: 0}}) {
					t.Errorf("at %d, the tick of %d: partition %d is %+v", now, owner, i, p)
				}
			}
			want = []int{-1, -1, -1}
			s = ticked(t, s, want...)
			for i, p := range s.Parts {
				if len(p.Jobs) != 0 || len(p.Tasks) != 1 || !slices.Equal(p.Log[4:], log{{At: now + 1, Kind: api.Missed, Task: 1}, {At: now + 1, Kind: api.Left, Task: 1}}) {
					t.Errorf("at %d: partition %d is %+v", now+1, i, p)
				}
			}
		}
	}
}

// P21.3: the last tick that there is; the state after it is not valid, and there is nothing more.
func TestTheLastTick(t *testing.T) {
	for _, s := range []state{busy(), booted(t, full()), booted(t, config{})} {
		for now := lastTime - 9; now <= lastTime; now++ {
			s = check(t, at(s, now), tick()).s
			if s.Now != now+1 || kernel.Right(s) != (now < lastTime) {
				t.Fatalf("after the tick at %d: %+v", now, s)
			}
		}
		unticked(t, s)
		for _, d := range all(0, 0, 1, with(1, 200, 200)) {
			refused(t, s, d, api.ErrArg)
		}
	}
	s := at(booted(t, some()), lastTime)
	s = released(t, s, 0, 1, 1)
	check(t, s, tick())
}

// P21.2, P21.3: a job that is released at a time is there in the tick of that time.
func TestAJobInTheTickOfItsRelease(t *testing.T) {
	s := booted(t, some())
	s = released(t, s, 0, 1, 1)
	s = ticked(t, s, 1, -1, -1)
	s = released(t, s, 1, 0, 5)
	s = ticked(t, s, -1, 0, -1)
	s = released(t, s, 0, 0, 9)
	s = ticked(t, s, -1, 0, -1)
	s = ticked(t, s, -1, -1, -1)
	s = ticked(t, s, 0, -1, -1)
	want := []log{
		{{At: 0, Kind: api.Released, Task: 1}, {At: 0, Kind: api.Done, Task: 1}, {At: 2, Kind: api.Released, Task: 0}, {At: 4, Kind: api.Cut, Task: 0}},
		{{At: 1, Kind: api.Released, Task: 0}, {At: 2, Kind: api.Cut, Task: 0}}, nil,
	}
	for i, p := range s.Parts {
		if !slices.Equal(p.Log, want[i]) {
			t.Errorf("the log of partition %d: %v", i, p.Log)
		}
	}
}

// P21.2, P21.3: a task is added, dropped, and changed, while its partition runs, and what it is then in other partitions.
func TestTasksThatComeAndGo(t *testing.T) {
	x := with(1, 40, 40)
	s := booted(t, some())
	s = released(t, s, 1, 0, 9)
	s = ticked(t, s, -1, -1, -1)
	s = ticked(t, s, -1, 0, -1)
	refused(t, s, add(1, x), api.ErrState)
	refused(t, s, change(1, 1, x), api.ErrState)
	s = added(t, s, 2, x)
	s = dropped(t, s, 0, 0)
	s = changed(t, s, 0, 1, with(1, 80, 80))
	s = ticked(t, s, -1, 0, -1)
	if n := len(s.Parts[0].Tasks); n != 1 || s.Parts[0].Tasks[0].T != 80 || !slices.Equal(s.Parts[0].Log, log{{At: 2, Kind: api.Left, Task: 1}, {At: 2, Kind: api.Left, Task: 0}}) {
		t.Errorf("partition 0: %+v", s.Parts[0])
	}
	s = released(t, s, 0, 0, 1)
	s = released(t, s, 2, 0, 1)
	s = ticked(t, s, -1, -1, -1)
	s = ticked(t, s, 0, -1, -1)
	s = ticked(t, s, -1, -1, 0)
	s = added(t, s, 1, with(1, 80, 80))
	s = added(t, s, 0, with(1, 80, 80))
	ticked(t, s, -1, -1, -1)
}

// readable returns the time ahead of whose tick the message that is sent ahead of tick number from is read first.
func readable(t *testing.T, length, from int) int {
	t.Helper()
	s := booted(t, config{Parts: slices.Repeat(parts{{Face: api.Face{P: length, B: max(1, length/2)}}}, 2), Ports: ports{{From: 0, To: 1, Cap: 3}}})
	for s.Now < from {
		refused(t, s, read(1, 0), api.ErrNone)
		s = ticked(t, s, -1, -1)
	}
	for v := range 3 {
		s = sent(t, s, 0, v+70)
	}
	for range 3 * length {
		if got := check(t, s, do(read(1, 0))); got.err == api.OK {
			break
		}
		refused(t, s, read(1, 0), api.ErrNone)
		s = ticked(t, s, -1, -1)
	}
	for v := range 3 {
		s = taken(t, s, 0, v+70)
	}
	refused(t, s, read(1, 0), api.ErrNone)
	return s.Now
}

// P21.2, P21.3: messages that are sent in one frame are read in the next one, as soon as its first tick is over, in order, and not ahead of it; those that are sent ahead of the first tick of a frame are read in that frame.
func TestMessagesAreReadInTheNextFrame(t *testing.T) {
	for _, length := range []int{2, 3, 4, 8} {
		for from := range 3*length + 1 {
			want := (from+length-1)/length*length + 1
			if got := readable(t, length, from); got != want {
				t.Errorf("frames of %d: sent at %d, read at %d, want %d", length, from, got, want)
			}
		}
	}
	s := booted(t, bare(2, api.Port{From: 1, To: 0, Cap: 1}))
	s.Table.Frame, s.Table.Windows = 1, nil
	for v := range 5 {
		s = sent(t, s, 0, v)
		refused(t, s, send(1, 0, v), api.ErrFull)
		refused(t, s, read(0, 0), api.ErrNone)
		s = ticked(t, s, -1, -1)
		s = taken(t, s, 0, v)
	}
}

// P21.2, P21.3: what is not read in time is lost when more arrives than there is room for.
func TestMessagesThatAreLost(t *testing.T) {
	s := booted(t, bare(2, api.Port{From: 0, To: 1, Cap: 2}))
	for now := range 4 * 8 {
		if now%8 == 3 {
			s = sent(t, s, 0, now)
		}
		s = ticked(t, s, -1, -1)
	}
	s = sent(t, s, 0, 40)
	refused(t, s, send(0, 0, 41), api.ErrFull)
	s = taken(t, s, 0, 11)
	s = ticked(t, s, -1, -1)
	s = taken(t, s, 0, 27)
	s = taken(t, s, 0, 40)
	refused(t, s, read(1, 0), api.ErrNone)
}

// The example of the chapter.
func TestExample(t *testing.T) {
	p := api.Part{Face: api.Face{P: 2, B: 1}}
	s := booted(t, config{Parts: parts{p, p}})
	for now := range 20 {
		if got := table.At(s.Table, now); got != now%2 {
			t.Errorf("tick %d belongs to %d", now, got)
		}
	}
	s = parted(parted(s, 0, long(0)), 1, long(0))
	for range 10 {
		s = ticked(t, s, 0, -1)
		s = ticked(t, s, -1, 0)
	}
}

// tickHere is the Kind of what is a tick, and not a request.
const tickHere = -9

// P21.2, P21.3: two partitions, all that they may request, and each number that results.
func TestTwoPartitions(t *testing.T) {
	x := with(1, 4, 4)
	p := api.Part{Face: api.Face{P: 2, B: 1}, Tasks: tasks{x}}
	s, err := kernel.Boot(config{Parts: parts{p, p}, Ports: ports{{From: 0, To: 1, Cap: 2}}})
	if err != api.OK {
		t.Fatalf("Boot: %d", err)
	}
	for n, y := range []struct {
		d   cmd
		v   int
		err api.Errno
	}{
		{release(0, 0, 1), 0, api.OK}, {release(1, 0, 3), 0, api.OK}, {release(0, 0, 1), 0, api.ErrEarly}, {send(0, 0, 7), 0, api.OK}, {send(1, 0, 7), 0, api.ErrDeny}, {send(0, 0, 8), 0, api.OK}, {send(0, 0, 9), 0, api.ErrFull},
		{read(1, 0), 0, api.ErrNone}, {read(0, 0), 0, api.ErrDeny}, {release(2, 0, 1), 0, api.ErrNone}, {cmd{Kind: 7}, 0, api.ErrNone}, {add(0, x), 0, api.ErrDeny}, {add(0, api.Task{}), 0, api.ErrArg}, {drop(0, 1), 0, api.ErrArg},
		{change(0, 0, x), 0, api.ErrDeny}, {drop(0, 0), 0, api.OK}, {drop(0, 0), 0, api.ErrState}, {release(0, 0, 1), 0, api.ErrState}, {cmd{Kind: 0, Part: 9}, 0, api.ErrNone},
		{d: cmd{Kind: tickHere}}, {read(1, 0), 7, api.OK}, {d: cmd{Kind: tickHere}}, {add(0, x), 0, api.OK}, {read(1, 0), 8, api.OK}, {read(1, 0), 0, api.ErrNone}, {release(0, 0, 2), 0, api.OK}, {d: cmd{Kind: tickHere}},
	} {
		if y.d.Kind == tickHere {
			s, _, err = kernel.Tick(s)
			if err != api.OK {
				t.Fatalf("Tick: %d", err)
			}
			continue
		}
		after, v, err := kernel.Do(s, y.d)
		if v != y.v || err != y.err {
			t.Errorf("request %d, %+v: %d, %d, want %d, %d", n, y.d, v, err, y.v, y.err)
		}
		s = after
	}
	want := []log{
		{{At: 0, Kind: api.Released, Task: 0}, {At: 0, Kind: api.Early, Task: 0}, {At: 0, Kind: api.Done, Task: 0}, {At: 0, Kind: api.Left, Task: 0}, {At: 2, Kind: api.Released, Task: 0}, {At: 2, Kind: api.Cut, Task: 0}},
		{{At: 0, Kind: api.Released, Task: 0}, {At: 1, Kind: api.Cut, Task: 0}},
	}
	for i, p := range s.Parts {
		if !slices.Equal(p.Log, want[i]) {
			t.Errorf("the log of partition %d: %v", i, p.Log)
		}
	}
	if s.Now != 3 || len(s.Lines) != 1 || s.Lines[0].Got.Many != 0 || s.Lines[0].Under.Many != 0 {
		t.Errorf("after all: %+v", s)
	}
}

// P21.1, P21.3: nothing happens in a system where nobody requests anything.
func TestAnIdleSystem(t *testing.T) {
	for _, c := range []config{{}, bare(1), bare(4), some(), full()} {
		s := booted(t, c)
		ran := slices.Repeat([]int{-1}, len(s.Parts))
		for now := range 30 {
			if after := ticked(t, s, ran...); !same(after, at(s, now+1)) {
				t.Errorf("after a tick of %+v: %+v", s, after)
			}
			s = at(s, now+1)
		}
	}
}
