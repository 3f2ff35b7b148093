package world_test

import (
	"math/rand"
	"slices"
	"strconv"
	"testing"

	"remontoir/api"
	"remontoir/face"
	"remontoir/image"
	"remontoir/kernel"
	"remontoir/task"
	"remontoir/world"
)

// anyTask returns a valid task by chance; the T have small cycles, with a few exceptions.
func anyTask(r *rand.Rand) api.Task {
	for {
		period := []int{8, 12, 16, 24, 48}[r.Intn(5)]
		if r.Intn(30) == 0 {
			period = []int{71, 100, 125, 197, 200}[r.Intn(5)]
		}
		d := period - r.Intn(period/2)
		x := api.Task{C: 1 + r.Intn(max(1, d/6)), D: d, T: period}
		for at := 0; at < x.C && len(x.Secs) < api.MaxSecs && r.Intn(3) > 0; at += r.Intn(3) {
			x.Secs = append(x.Secs, api.Sec{Res: r.Intn(api.MaxRes), At: at, Len: 1 + r.Intn(x.C-at)})
		}
		if task.Right(x) {
			return x
		}
	}
}

// anyPart returns a partition by chance, with an interface that is just sufficient for its tasks.
func anyPart(r *rand.Rand) api.Part {
	for {
		var l tasks
		for range r.Intn(5) {
			l = append(l, anyTask(r))
		}
		if f, err := face.Least(l, []int{1, 2, 3, 4, 6, 8, 12, 24}[r.Intn(8)]); err == api.OK {
			return api.Part{Face: f, Tasks: l}
		}
	}
}

// anySystem returns a system by chance, with so many partitions, and any number of ports if there are two or more; it boots.
func anySystem(r *rand.Rand, n int) config {
	for {
		var c config
		for range n {
			c.Parts = append(c.Parts, anyPart(r))
		}
		for range r.Intn(api.MaxPorts + 1) {
			if n > 1 {
				from := r.Intn(n)
				c.Ports = append(c.Ports, api.Port{From: from, To: (from + 1 + r.Intn(n-1)) % n, Cap: 1 + r.Intn(api.MaxQueue)})
			}
		}
		if _, err := kernel.Boot(c); err == api.OK {
			return c
		}
	}
}

// anyCmd returns a request by chance; most of them are permitted.
func anyCmd(r *rand.Rand, c config) cmd {
	n := len(c.Parts)
	d := cmd{Part: r.Intn(max(1, n)), Kind: []int{1, 1, 1, 1, 1, 2, 2, 3, 3, 3, 4, 4, 5, 6, r.Intn(8)}[r.Intn(15)], I: r.Intn(4), V: 1 + r.Intn(6), T: anyTask(r)}
	switch {
	case r.Intn(30) == 0:
		d.Part = []int{-1, n, n + 1, 4, ends()[r.Intn(9)]}[r.Intn(5)]
	case r.Intn(30) == 0:
		d.I = []int{-1, 4, 8, ends()[r.Intn(9)]}[r.Intn(4)]
	case r.Intn(30) == 0:
		d.V = []int{-1, 0, 200, 201, ends()[r.Intn(9)]}[r.Intn(5)]
	case r.Intn(30) == 0:
		d.T = []api.Task{{}, with(0, 4, 4), with(5, 4, 4), with(1, 5, 4), with(1, 4, 201), with(2, 4, 4, 4, 0, 1), with(2, 4, 4, 0, 1, 2)}[r.Intn(7)]
	case len(c.Ports) > 0 && r.Intn(3) > 0:
		d.I = r.Intn(len(c.Ports))
		switch p := c.Ports[d.I]; d.Kind {
		case kernel.Send:
			d.Part, d.V = p.From, r.Intn(9)-4
		case kernel.Read:
			d.Part = p.To
		}
	}
	return d
}

// anyScript returns a script by chance, of so many ticks, with up to most requests ahead of each.
func anyScript(r *rand.Rand, c config, n, most int) script {
	l := make(script, n)
	for i := range l {
		for range r.Intn(most + 1) {
			l[i] = append(l[i], anyCmd(r, c))
		}
	}
	return l
}

// dense returns a script in which each partition releases each job as early as it may, which wants all that there is; from a time on that differs from task to task.
func dense(r *rand.Rand, c config, n int) script {
	l := make(script, n)
	for p, x := range c.Parts {
		for i := range x.Tasks {
			for at := r.Intn(2) * r.Intn(30); at < n; at++ {
				l[at] = append(l[at], release(p, i, api.MaxTime))
			}
		}
	}
	return l
}

// noMissed checks that no log says that a job was not finished in time (P22.4).
func noMissed(t *testing.T, v []view) {
	t.Helper()
	for p, x := range v {
		if slices.ContainsFunc(x.Log, func(e entry) bool { return e.Kind == api.Missed }) {
			t.Fatalf("partition %d: %+v", p, x.Log)
		}
	}
}

// name returns the name of a Kind.
func name(kind int) string {
	if kind < 1 || kind > 6 {
		return "Other"
	}
	return []string{"Release", "Send", "Read", "Add", "Drop", "Change"}[kind-1]
}

// P22.1, P22.4: systems by chance, with requests by chance.
func TestPlayByChance(t *testing.T) {
	r := rand.New(rand.NewSource(91))
	counts := map[string]int{}
	for k := range 400 {
		c := anySystem(r, k%(api.MaxParts+1))
		l := anyScript(r, c, r.Intn(200), r.Intn(9))
		got := played(t, c, l)
		noMissed(t, got)
		places := make([]int, len(got))
		for _, requests := range l {
			for _, x := range requests {
				if x.Part >= 0 && x.Part < len(got) {
					counts[name(x.Kind)+" "+strconv.Itoa(int(got[x.Part].Saws[places[x.Part]].Err))]++
					places[x.Part]++
				}
			}
		}
		for _, v := range got {
			for _, e := range v.Log {
				counts["kind "+strconv.Itoa(e.Kind)]++
			}
		}
	}
	for _, x := range []string{"Other 4", "Release 0", "Release 1", "Release 6", "Release 9", "Send 0", "Send 3", "Send 4", "Send 7", "Read 0", "Read 4", "Read 7", "Add 0", "Add 1", "Add 5", "Add 7", "Add 9", "Drop 0", "Drop 1", "Drop 9", "Change 0", "Change 1", "Change 5", "Change 7", "Change 9", "kind 1", "kind 2", "kind 4", "kind 5", "kind 7"} {
		if counts[x] < 20 {
			t.Errorf("too few of a kind: %v has %d of %s", counts, counts[x], x)
		}
	}
}

// P22.4: whatever is released as early as it may be, no job is missed, though the interfaces are just sufficient.
func TestDeadlines(t *testing.T) {
	r := rand.New(rand.NewSource(92))
	done := 0
	for k := range 300 {
		c := anySystem(r, 1+k%api.MaxParts)
		l := dense(r, c, 300)
		if k%3 == 0 {
			// Tasks come and go meanwhile.
			for i, more := range anyScript(r, c, 300, 2) {
				l[i] = slices.Concat(more, l[i])[:min(100, len(more)+len(l[i]))]
			}
		}
		got, err := world.Play(encoded(t, c), l)
		if err != api.OK {
			t.Fatalf("Play of %+v: %d", c, err)
		}
		noMissed(t, got)
		for _, v := range got {
			for _, e := range v.Log {
				if e.Kind == api.Done || e.Kind == api.Cut {
					done++
				}
			}
		}
	}
	if done < 10000 {
		t.Errorf("only %d jobs", done)
	}
}

// tighter returns the system with a tick more of the first task of a partition.
func tighter(c config, p int) config {
	c.Parts = slices.Clone(c.Parts)
	c.Parts[p].Tasks = slices.Clone(c.Parts[p].Tasks)
	c.Parts[p].Tasks[0].C++
	return c
}

// P22.4: deadlines at which there is nothing to spare: with a tick more the system would not boot.
func TestTightDeadlines(t *testing.T) {
	for _, c := range []config{
		{Parts: parts{part(1, 1, with(4, 4, 4))}},
		{Parts: parts{part(1, 1, with(1, 2, 2), with(2, 4, 4))}},
		{Parts: parts{part(1, 1, with(2, 3, 8), with(1, 3, 8))}},
		{Parts: parts{part(2, 1, with(1, 3, 3)), part(2, 1, with(2, 6, 6))}},
		{Parts: parts{part(1, 1, with(1, 3, 8, 0, 0, 1), with(4, 8, 8, 0, 0, 2))}},
		{Parts: parts{part(4, 1, with(1, 7, 7)), part(4, 1, with(2, 11, 12)), part(4, 1, with(3, 15, 16)), part(4, 1, with(1, 7, 8))}},
	} {
		for p := range c.Parts {
			if _, err := kernel.Boot(tighter(c, p)); err == api.OK {
				t.Errorf("%+v boots with a tick more in partition %d", c, p)
			}
		}
		for first := range 8 {
			for second := range 8 {
				l := make(script, 80)
				for p, x := range c.Parts {
					for i := range x.Tasks {
						for at := []int{first, second}[(p+i)%2]; at < len(l); at++ {
							l[at] = append(l[at], release(p, i, api.MaxTime))
						}
					}
				}
				noMissed(t, played(t, c, l))
			}
		}
	}
}

// P22.1, P22.3, P22.4: all scripts of five ticks, with at most one request ahead of each.
func TestAllShortScripts(t *testing.T) {
	c := config{
		Parts: parts{part(2, 1, with(1, 4, 4)), part(2, 1, with(1, 5, 8), with(1, 8, 8))},
		Ports: ports{{From: 0, To: 1, Cap: 1}},
	}
	options := []cmds{nil, {release(0, 0, 1)}, {release(1, 0, 2)}, {release(1, 1, 1)}, {send(0, 0, 5)}, {read(1, 0)}, {drop(1, 0)}}
	l := make(script, 5)
	var walk func(n int)
	walk = func(n int) {
		if n == len(l) {
			noMissed(t, played(t, c, l))
			return
		}
		for _, x := range options {
			l[n] = x
			walk(n + 1)
		}
	}
	walk(0)
}

// silent reports whether a partition requests neither Read nor Send.
func silent(l script, p int) bool {
	for _, requests := range l {
		if slices.ContainsFunc(requests, func(c cmd) bool { return c.Part == p && (c.Kind == kernel.Read || c.Kind == kernel.Send) }) {
			return false
		}
	}
	return true
}

// mute returns a script in which a partition requests neither Read nor Send.
func mute(l script, p int) script {
	out := make(script, len(l))
	for i, requests := range l {
		for _, c := range requests {
			if c.Part != p || c.Kind != kernel.Read && c.Kind != kernel.Send {
				out[i] = append(out[i], c)
			}
		}
	}
	return out
}

// mixed returns requests by chance of which those of p are its own, and those that are sent are the given ones, both in their order; some of others stand anywhere among them.
func mixed(r *rand.Rand, c config, own, sent cmds, p int) cmds {
	var out cmds
	for len(own) > 0 || len(sent) > 0 {
		mine := len(own) > 0 && own[0].Kind != kernel.Send
		other := len(sent) > 0 && sent[0].Part != p
		switch noise := anyCmd(r, c); {
		case r.Intn(3) == 0 && noise.Part != p && noise.Kind != kernel.Send && len(out) < 60:
			out = append(out, noise)
		case mine && (!other || r.Intn(2) == 0):
			out, own = append(out, own[0]), own[1:]
		case other:
			out, sent = append(out, sent[0]), sent[1:]
		default:
			// What p sends stands at the front of both.
			out, own, sent = append(out, own[0]), own[1:], sent[1:]
		}
	}
	return out
}

// another returns a script by chance in which p requests the same, and the same is sent.
func another(t *testing.T, r *rand.Rand, c config, l script, p int) script {
	t.Helper()
	own, sent := world.Own(l, p), world.Sends(l)
	out := make(script, len(l))
	for i := range l {
		out[i] = mixed(r, c, own[i], sent[i], p)
	}
	if !sameScript(world.Own(out, p), own) || !sameScript(world.Sends(out), sent) {
		t.Fatalf("%+v, %+v", l, out)
	}
	return out
}

// viewOf returns the view of a partition.
func viewOf(t *testing.T, b []byte, l script, p int) view {
	t.Helper()
	v, err := world.Play(b, l)
	if err != api.OK {
		t.Fatalf("Play: %d", err)
	}
	return v[p]
}

// P22.3: the view of a partition is the same whatever others request, as long as the same is sent; of one that never reads nor sends, the same as for its own requests only.
func TestAlone(t *testing.T) {
	r := rand.New(rand.NewSource(93))
	others, reads := 0, 0
	for range 150 {
		n := 1 + r.Intn(api.MaxParts)
		c := anySystem(r, n)
		b := encoded(t, c)
		l := anyScript(r, c, 80, 8)
		for p := range n {
			want := viewOf(t, b, l, p)
			for range 3 {
				x := another(t, r, c, l, p)
				if got := viewOf(t, b, x, p); !sameView(got, want) {
					t.Fatalf("partition %d of %+v:\n%+v with %+v\n%+v with %+v", p, c, want, l, got, x)
				}
				if !sameScript(x, l) {
					others++
				}
			}
			for _, s := range want.Saws {
				if s.Value != 0 {
					reads++
				}
			}
			quiet := mute(l, p)
			want = viewOf(t, b, quiet, p)
			for _, x := range []script{world.Own(quiet, p), another(t, r, c, quiet, p), another(t, r, c, world.Own(quiet, p), p)} {
				if got := viewOf(t, b, x, p); !silent(quiet, p) || !sameView(got, want) {
					t.Fatalf("partition %d of %+v, without messages:\n%+v with %+v\n%+v with %+v", p, c, want, quiet, got, x)
				}
			}
		}
	}
	if others < 300 || reads < 300 {
		t.Errorf("too few: %d scripts that differ, %d messages", others, reads)
	}
}

// P22.3: a partition that reads sees what is sent, so its own requests only are not enough; one that doesn't, sees nothing of it.
func TestAloneAndMessages(t *testing.T) {
	b := encoded(t, pair())
	l := script{{send(0, 0, 7), release(1, 0, 1), release(0, 0, 1)}, {read(1, 0)}, {}}
	whole, own := viewOf(t, b, l, 1), viewOf(t, b, world.Own(l, 1), 1)
	sawAll(t, whole, saw{}, saw{At: 1, Value: 7})
	sawAll(t, own, saw{}, saw{At: 1, Err: api.ErrNone})
	if !slices.Equal(whole.Ran, own.Ran) || !slices.Equal(whole.Log, own.Log) {
		t.Errorf("%+v, and alone %+v", whole, own)
	}
	quiet := mute(l, 1)
	if x, y := viewOf(t, b, quiet, 1), viewOf(t, b, world.Own(quiet, 1), 1); !sameView(x, y) || len(x.Saws) != 1 {
		t.Errorf("%+v, and alone %+v", x, y)
	}
	// A sender does not see whether what it sent was read.
	for _, read := range []cmds{nil, {read(1, 0)}, {read(1, 0), read(1, 0), read(1, 0)}} {
		l := script{{send(0, 0, 1), send(0, 0, 2), send(0, 0, 3)}, read, {send(0, 0, 4)}, read, {send(0, 0, 5), send(0, 0, 6)}, read}
		sawAll(t, viewOf(t, b, l, 0), saw{}, saw{}, saw{Err: api.ErrFull}, saw{At: 2}, saw{At: 4}, saw{At: 4})
	}
}

// P22.3: however busy others are, and whatever is wrong with what they request.
func TestBusyNeighbours(t *testing.T) {
	c := some()
	b := encoded(t, c)
	own := make(script, 60)
	for i := range own {
		own[i] = cmds{release(1, i%2, 1+i%3), cmd{Part: 1, Kind: i % 9, I: i % 3, V: i, T: with(1, 48, 48, 0, 0, 1)}}
	}
	own = mute(own, 1)
	want := viewOf(t, b, own, 1)
	if len(want.Log) < 40 || !silent(own, 1) {
		t.Errorf("%+v", want)
	}
	for _, p := range append(ends(), -1, 0, 2, 3) {
		for _, n := range append(ends(), -1, 0, 1, 2) {
			l := make(script, len(own))
			for i := range l {
				l[i] = slices.Concat(all(p, n, n, with(1, 200, 200)), own[i], all(p, i%3, i, with(n, n, n)), all(p, 0, 1, with(1, 8, 8)))
			}
			if got := viewOf(t, b, l, 1); !sameView(got, want) {
				t.Errorf("partition %d requests %d: %+v, want %+v", p, n, got, want)
			}
		}
	}
}

// anyBytes returns bytes by chance: of an image, of which some may be changed, cut off, or added.
func anyBytes(r *rand.Rand, b []byte) []byte {
	b = slices.Clone(b)
	for range r.Intn(3) {
		b[r.Intn(len(b))] = byte(r.Intn(256))
	}
	switch r.Intn(8) {
	case 0:
		b = b[:r.Intn(len(b))]
	case 1:
		b = append(b, byte(r.Intn(256)))
	case 2:
		b = make([]byte, r.Intn(40))
		r.Read(b)
	}
	return b
}

// P22.5: any bytes and any script have a result.
func TestTotal(t *testing.T) {
	r := rand.New(rand.NewSource(94))
	counts := map[api.Errno]int{}
	for range 6000 {
		c := anySystem(r, r.Intn(5))
		l := anyScript(r, c, r.Intn(20), 6)
		if r.Intn(10) == 0 {
			l = append(l, make(script, []int{1, api.MaxBound - len(l), api.MaxBound, 1 << 14}[r.Intn(4)])...)
		}
		if r.Intn(10) == 0 && len(l) > 0 {
			l[r.Intn(len(l))] = make(cmds, []int{100, 101, 1000}[r.Intn(3)])
		}
		_, err := check(t, anyBytes(r, encoded(t, c)), l)
		counts[err]++
	}
	for _, x := range []api.Errno{api.OK, api.ErrArg, api.ErrForm, api.ErrLarge, api.ErrDeny, api.ErrMore} {
		if counts[x] < 20 {
			t.Errorf("too few of a kind: %v", counts)
		}
	}
	if len(counts) != 6 {
		t.Errorf("%v", counts)
	}
}

// P22.5: each single byte of an image replaced by each other one.
func TestEachByteReplaced(t *testing.T) {
	for _, c := range []config{pair(), {Parts: parts{part(4, 2, with(2, 6, 8, 1, 0, 1), with(1, 8, 8)), part(4, 1)}, Ports: ports{{From: 1, To: 0, Cap: 1}}}} {
		b := encoded(t, c)
		l := script{{release(0, 0, 2), send(1, 0, 4), send(0, 0, 4), release(1, 0, 1)}, {read(0, 0), read(1, 0)}, {drop(0, 0)}, {}, {}}
		for i := range b {
			for x := range 256 {
				other := slices.Clone(b)
				other[i] = byte(x)
				check(t, other, l)
			}
		}
	}
}

// R1: requests with numbers at the ends of int in each place.
func TestAnyNumbers(t *testing.T) {
	numbers := append(ends(), -1, 0, 1, 2)
	for _, a := range numbers {
		for _, b := range numbers {
			var l cmds
			for kind := range 8 {
				x := api.Task{C: a, D: b, T: a, Secs: []api.Sec{{Res: a, At: b, Len: a}, {Res: b, At: a, Len: b}}}
				l = append(l, cmd{Part: a, Kind: kind, I: b, V: a, T: x}, cmd{Part: 0, Kind: kind, I: a, V: b, T: x}, cmd{Part: 1, Kind: kind, I: 0, V: a, T: x}, cmd{Part: 1, Kind: a, I: b, V: b, T: x})
			}
			noMissed(t, played(t, pair(), script{l, {release(0, 0, 1)}, l, {}, l}))
		}
	}
}

// Example 7 of the whole: a job with a later deadline that holds what a job with an earlier deadline needs runs until it releases it.
func TestHeldResource(t *testing.T) {
	// Task 1 holds resource 0 when it has had 2 or 3 ticks.
	c := config{Parts: parts{part(1, 1, with(1, 9, 20, 0, 0, 1), with(5, 20, 20, 0, 1, 3))}}
	for at, want := range [][]int{{0, 1, 1, 1, 1, 1}, {1, 0, 1, 1, 1, 1}, {1, 1, 1, 1, 0, 1}, {1, 1, 1, 1, 0, 1}, {1, 1, 1, 1, 0, 1}, {1, 1, 1, 1, 1, 0}} {
		l := make(script, 6)
		l[0] = cmds{release(0, 1, 5)}
		l[at] = append(l[at], release(0, 0, 1))
		if got := played(t, c, l)[0].Ran; !slices.Equal(got, want) {
			t.Errorf("released at %d: %v, want %v", at, got, want)
		}
	}
}

// Example 8 of the whole: T 5, and releases at 0, 4, 5, 9, 11: those at 4 and 9 are too early.
func TestEarlyReleases(t *testing.T) {
	l := make(script, 14)
	for _, at := range []int{0, 4, 5, 9, 11} {
		l[at] = cmds{release(0, 0, 1)}
	}
	got := played(t, config{Parts: parts{part(1, 1, with(1, 5, 5))}}, l)
	sawAll(t, got[0], saw{At: 0}, saw{At: 4, Err: api.ErrEarly}, saw{At: 5}, saw{At: 9, Err: api.ErrEarly}, saw{At: 11})
}

// Example 9 of the whole: a task that is leaving counts until its partition has no jobs.
func TestLeavingTaskCounts(t *testing.T) {
	x := with(2, 4, 4)
	c := config{Parts: parts{part(1, 1, x, x)}}
	l := script{{release(0, 0, 2), release(0, 1, 2), drop(0, 0), add(0, x)}, {add(0, x)}, {add(0, x)}, {add(0, x)}, {add(0, x), add(0, x)}, {}}
	got := played(t, c, l)
	sawAll(t, got[0], saw{}, saw{}, saw{}, saw{Err: api.ErrDeny}, saw{At: 1, Err: api.ErrState}, saw{At: 2, Err: api.ErrDeny}, saw{At: 3, Err: api.ErrState}, saw{At: 4}, saw{At: 4, Err: api.ErrDeny})
	if e := got[0].Log[len(got[0].Log)-1]; e != (entry{At: 3, Kind: api.Left}) {
		t.Errorf("%+v", got[0].Log)
	}
}

// Example 10 of the whole: whatever others request, the view of a partition is the same.
func TestWhateverOthersRequest(t *testing.T) {
	b := encoded(t, pair())
	own := script{{release(0, 0, 1), add(0, with(1, 200, 200))}, {}, {release(0, 1, 9)}, {release(0, 0, 3)}, {release(0, 0, 3)}, {}, {}}
	want := viewOf(t, b, own, 0)
	for _, kind := range []int{1, 2, 3, 4, 5, 6, 7} {
		l := make(script, len(own))
		for i := range l {
			x := cmd{Part: 1, Kind: kind, I: 0, V: i, T: with(1, 200, 200)}
			l[i] = slices.Concat(cmds{x, x}, own[i], cmds{x})
		}
		if got := viewOf(t, b, l, 0); !sameView(got, want) || len(got.Log) < 5 {
			t.Errorf("Kind %d: %+v, want %+v", kind, got, want)
		}
	}
}

// P22.5: a decoded system that is played is the one that was encoded.
func TestDecodedSystems(t *testing.T) {
	r := rand.New(rand.NewSource(95))
	for range 50 {
		c := anySystem(r, r.Intn(5))
		l := anyScript(r, c, 40, 5)
		b := encoded(t, c)
		d, _, err := image.Decode(b)
		if err != api.OK || !image.Same(c, d) || !sameViews(played(t, c, l), played(t, d, l)) {
			t.Errorf("%+v, %+v, %d", c, d, err)
		}
	}
}

// The script of README.md.
func TestReadme(t *testing.T) {
	got := played(t, pair(), script{{release(0, 0, 1), send(0, 0, 7)}, {read(1, 0)}})
	want := []view{
		{Saws: []saw{{}, {}}, Ran: []int{0, -1}, Log: log{{At: 0, Kind: api.Released}, {At: 0, Kind: api.Done}}},
		{Saws: []saw{{At: 1, Value: 7}}, Ran: []int{-1, -1}},
	}
	if !sameViews(got, want) {
		t.Errorf("%+v", got)
	}
}
