package world_test

import (
	"math/rand"
	"slices"
	"testing"

	"remontoir/api"
	"remontoir/task"
	"remontoir/world"
)

// behind returns a list in new memory, in which some lies behind it, too.
func behind[E any](l []E, more ...E) []E {
	memory := make([]E, 0, len(l)+len(more))
	return append(append(memory, l...), more...)[:len(l)]
}

// whole returns all the memory of a list, also what lies behind it.
func whole[E any](l []E) []E {
	return l[:cap(l)]
}

// overwrite writes another element to all the memory of a list.
func overwrite[E any](l []E, other E) {
	for i := range whole(l) {
		whole(l)[i] = other
	}
}

// copied returns a script in new memory, with some behind each of its lists.
func copied(l script) script {
	out := behind(l, cmds{read(1, 0)}, cmds{release(0, 0, 1)})
	for i, requests := range out {
		out[i] = behind(requests, add(1, with(1, 4, 4)), release(0, 0, 7))
		for k, c := range out[i] {
			out[i][k].T.Secs = behind(c.T.Secs, api.Sec{Res: 9, At: 9, Len: 9})
		}
	}
	return out
}

// wholeScript returns a script with all the memory behind each of its lists.
func wholeScript(l script) script {
	out := slices.Clone(whole(l))
	for i, requests := range out {
		out[i] = slices.Clone(whole(requests))
		for k, c := range out[i] {
			out[i][k].T.Secs = whole(c.T.Secs)
		}
	}
	return out
}

// spoil writes others to all the memory of a script, also of its sections.
func spoil(l script) {
	for _, requests := range l {
		for _, c := range requests {
			overwrite(c.T.Secs, api.Sec{Res: -7})
		}
		overwrite(requests, cmd{Part: -77})
	}
	overwrite(l, cmds{{Part: -777}})
}

// spoilViews writes others to all the memory of views.
func spoilViews(v []view) {
	for _, x := range v {
		overwrite(x.Saws, saw{At: -77})
		overwrite(x.Ran, -77)
		overwrite(x.Log, entry{At: -77})
	}
	overwrite(v, view{Ran: []int{-777}})
}

// A given is what calls are given: bytes, a script, and a partition.
type given struct {
	b []byte
	l script
	p int
}

// copied returns the same in new memory.
func (x given) copied() given {
	return given{behind(x.b, 0, 1, 2), copied(x.l), x.p}
}

// same reports whether two are equal, with all the memory behind their lists.
func (x given) same(y given) bool {
	return slices.Equal(whole(x.b), whole(y.b)) && sameScript(wholeScript(x.l), wholeScript(y.l)) && x.p == y.p
}

// An answer is what all calls return.
type answer struct {
	views     []view
	err       api.Errno
	own, sent script
}

func (x given) ask() answer {
	var a answer
	a.views, a.err = world.Play(x.b, x.l)
	a.own, a.sent = world.Own(x.l, x.p), world.Sends(x.l)
	return a
}

func (a answer) equal(b answer) bool {
	return sameViews(a.views, b.views) && a.err == b.err && sameScript(a.own, b.own) && sameScript(a.sent, b.sent)
}

// cases returns calls with all the errors that there are, and views of all kinds.
func cases(t *testing.T) []given {
	t.Helper()
	r := rand.New(rand.NewSource(101))
	b := encoded(t, some())
	nested := with(4, 60, 60, 0, 0, 4, 1, 0, 4, 2, 1, 2)
	busy := make(script, 30)
	for i := range busy {
		busy[i] = slices.Concat(all(i%4, i%3, 1+i%3, nested), cmds{send(0, 0, i), read(1, 0), send(2, 2, -i), read(0, 2)}, all(1, 0, 1, nested))
	}
	early := make(script, 25)
	for i := range early {
		early[i] = slices.Repeat(cmds{release(0, 0, 1)}, 100)
	}
	out := []given{
		{nil, busy, 1}, {b[:9], busy, 0}, {append(slices.Clone(b), 0), busy, 2}, {[]byte{'T', 'K', '1', 5, 0}, nil, 0}, {[]byte{'T', 'K', '1', 1, 0, 0, 0, 0}, busy, 0},
		{b, make(script, api.MaxBound+1), 0}, {b, ahead(5, 2, slices.Repeat(busy[0], 20)...), 0}, {b, nil, 0}, {b, script{nil, {}}, 0},
		{b, busy, 0}, {b, busy, 1}, {b, busy, -1}, {b, early, 0}, {encoded(t, full()), busy, 3}, {encoded(t, config{}), busy, 1},
		{encoded(t, config{Parts: parts{part(1, 1), part(1, 1)}}), busy, 1},
	}
	for k := range 120 {
		c := anySystem(r, k%(api.MaxParts+1))
		out = append(out, given{encoded(t, c), anyScript(r, c, r.Intn(40), 9), r.Intn(5)})
	}
	return out
}

// P22.1: the calls that are looked at for memory have all the errors that there are, and lists of all kinds.
func TestCases(t *testing.T) {
	counts := map[string]int{}
	for _, x := range cases(t) {
		v, err := check(t, x.b, x.l)
		counts["error "+string(rune('0'+err))]++
		for _, y := range v {
			counts["saws"] += min(1, len(y.Saws))
			counts["ran"] += min(1, len(y.Ran))
			counts["log"] += min(1, len(y.Log))
			counts["full"] += len(y.Log) / api.MaxLog
		}
		for _, requests := range owned(t, x.l, x.p) {
			for _, c := range requests {
				counts["secs"] += min(1, len(c.T.Secs))
			}
		}
		sends(t, x.l)
	}
	for _, x := range []string{"error 0", "error 1", "error 2", "error 5", "error 7", "error 8", "saws", "ran", "log", "full", "secs"} {
		if counts[x] < 1 {
			t.Errorf("none of a kind: %v has no %s", counts, x)
		}
	}
}

// R3: no call changes its arguments, nor what lies behind them.
func TestArgumentsDoNotChange(t *testing.T) {
	for n, x := range cases(t) {
		g, before := x.copied(), x.copied()
		g.ask()
		if !g.same(before) {
			t.Fatalf("case %d changed its arguments: %+v to %+v", n, before, g)
		}
	}
}

// R3: results are new memory, spare capacity included: what is written there changes neither arguments nor other results.
func TestResultsAreNewMemory(t *testing.T) {
	for n, x := range cases(t) {
		g, before := x.copied(), x.copied()
		want, first, second := before.ask(), g.ask(), g.ask()
		for i, spot := range []func(a answer){
			func(a answer) { spoilViews(a.views) },
			func(a answer) { spoil(a.own) },
			func(a answer) { spoil(a.sent) },
		} {
			spot(first)
			if !second.equal(want) || !g.same(before) {
				t.Fatalf("case %d: a change of result %d is seen elsewhere", n, i)
			}
		}
		if third := g.ask(); !third.equal(want) {
			t.Fatalf("case %d: a change of a result changed the next one", n)
		}
	}
}

// R3: what is written to the arguments behind a call changes no result.
func TestNothingIsShared(t *testing.T) {
	for n, x := range cases(t) {
		g, want := x.copied(), x.copied().ask()
		got := g.ask()
		overwrite(g.b, 77)
		spoil(g.l)
		if !got.equal(want) {
			t.Fatalf("case %d: a change of the arguments is seen in a result", n)
		}
	}
}

// R3: no two lists of views share anything.
func TestViewsAreApart(t *testing.T) {
	for n, x := range cases(t) {
		want, _ := world.Play(x.b, x.l)
		for p := range want {
			for i, spot := range []func(v *view){
				func(v *view) { overwrite(v.Saws, saw{At: -7}) },
				func(v *view) { overwrite(v.Ran, -7) },
				func(v *view) { overwrite(v.Log, entry{At: -7}) },
			} {
				got, _ := world.Play(x.b, x.l)
				spot(&got[p])
				alone := view{slices.Clone(want[p].Saws), slices.Clone(want[p].Ran), slices.Clone(want[p].Log)}
				spot(&alone)
				for k := range want {
					if k == p && !sameView(got[k], alone) || k != p && !sameView(got[k], want[k]) {
						t.Fatalf("case %d: list %d of view %d shares with view %d", n, i, p, k)
					}
				}
			}
		}
	}
}

// R3: no two ticks of a script, nor the sections of two requests, share anything, also where they do in the argument.
func TestTicksAreApart(t *testing.T) {
	secs := []api.Sec{{Res: 0, At: 0, Len: 1}, {Res: 3, At: 7, Len: 9}}[:1]
	c := send(1, 0, 5)
	c.T = api.Task{C: 1, D: 4, T: 4, Secs: secs}
	tick := cmds{c, c, c, c, c}[:3]
	l := script{tick, tick, tick, tick}[:3]
	for i, call := range []func() script{func() script { return world.Own(l, 1) }, func() script { return world.Sends(l) }} {
		for at := range 3 {
			for k := range 3 {
				got := call()
				overwrite(got[at][k].T.Secs, api.Sec{Len: -7})
				for j := range 9 {
					if here := got[j/3][j%3].T.Secs; j != at*3+k && !slices.Equal(here, secs) || cap(here) > 0 && whole(here)[cap(here)-1].Res == 3 {
						t.Errorf("call %d: the sections of request %d of tick %d are shared: %+v", i, k, at, got)
					}
				}
			}
			got := call()
			overwrite(got[at], cmd{Part: -7})
			for j := range 3 {
				if j != at && !slices.EqualFunc(got[j], tick, sameCmd) {
					t.Errorf("call %d: tick %d is shared: %+v", i, at, got)
				}
			}
			got[at] = append(got[at], drop(0, 0))
			if len(whole(tick)) != 5 || !sameCmd(whole(tick)[3], c) || len(whole(l)) != 4 || len(whole(l)[3]) != 3 {
				t.Errorf("call %d: what lies behind has changed: %+v", i, whole(l))
			}
		}
	}
	if secs[0].Len != 1 || whole(secs)[1].Len != 9 || !task.Same(tick[0].T, c.T) {
		t.Errorf("%+v", l)
	}
}

// R3: all the requests that are kept may be all that there are: the script is another one nevertheless.
func TestScriptsOfAllRequests(t *testing.T) {
	l := script{{send(0, 0, 1), send(0, 0, 2)}, {}, {send(0, 1, 3)}}
	for i, got := range []script{world.Own(l, 0), world.Sends(l)} {
		if !sameScript(got, l) {
			t.Errorf("call %d: %+v", i, got)
		}
		spoil(got)
		if !sameScript(l, script{{send(0, 0, 1), send(0, 0, 2)}, {}, {send(0, 1, 3)}}) {
			t.Errorf("call %d changed %+v", i, l)
		}
	}
}

// R3, R4: no call keeps what it is given: after other calls, and after a change in the same memory, the results are those of new memory.
func TestNothingIsKept(t *testing.T) {
	every := cases(t)
	bytes, ticks := make([]byte, 0, 1<<12), make(script, 0, 1<<12)
	for n, x := range every {
		want := x.copied().ask()
		every[(n+1)%len(every)].ask()
		for range 2 {
			g := given{append(bytes, x.b...), append(ticks, x.l...), x.p}
			if got := g.ask(); !got.equal(want) {
				t.Fatalf("case %d: %+v, and before %+v", n, got, want)
			}
		}
	}
}

// R3: a nil list and an empty one are the same.
func TestNoListAndAnEmptyOne(t *testing.T) {
	for n, x := range append(cases(t), given{[]byte{}, script{}, 0}) {
		want := x.ask()
		g := given{append([]byte{}, x.b...), append(script{}, x.l...), x.p}
		for i, requests := range g.l {
			g.l[i] = append(cmds{}, requests...)
			for k, c := range g.l[i] {
				g.l[i][k].T.Secs = append([]api.Sec{}, c.T.Secs...)
			}
		}
		if got := g.ask(); !got.equal(want) {
			t.Errorf("case %d with empty lists: %+v, and with none %+v", n, got, want)
		}
	}
}

// R1: lists far beyond the limits.
func TestLongLists(t *testing.T) {
	far := with(5, 200, 200)
	far.Secs = slices.Repeat([]api.Sec{{Res: 0, At: 0, Len: 1}}, 1<<16)
	b := encoded(t, pair())
	got := played(t, pair(), script{{add(0, far), change(1, 0, far), add(1, far)}})
	sawAll(t, got[0], saw{Err: api.ErrArg})
	sawAll(t, got[1], saw{Err: api.ErrArg}, saw{Err: api.ErrArg})
	if own := owned(t, script{{add(0, far), add(1, far)}}, 1); len(own[0]) != 1 || len(own[0][0].T.Secs) != 1<<16 {
		t.Errorf("%d requests", len(own[0]))
	}
	unplayed(t, slices.Concat(b, make([]byte, 1<<20)), nil, api.ErrForm)
	unplayed(t, b, make(script, 1<<20), api.ErrLarge)
	unplayed(t, b, script{make(cmds, 1<<18)}, api.ErrLarge)
}

// R4: the results are the same again, whatever else is asked before.
func TestDeterminism(t *testing.T) {
	every := cases(t)
	var before []answer
	for _, x := range every {
		before = append(before, x.ask())
	}
	for _, n := range rand.New(rand.NewSource(102)).Perm(len(every)) {
		if got := every[n].ask(); !got.equal(before[n]) {
			t.Fatalf("case %d: %+v, and before %+v", n, got, before[n])
		}
	}
}

// R2: beside an error there are no views, not even empty ones.
func TestNoViewsBesideAnError(t *testing.T) {
	for n, x := range cases(t) {
		if v, err := world.Play(x.b, x.l); err != api.OK && v != nil {
			t.Errorf("case %d: %+v beside %d", n, v, err)
		}
	}
}
