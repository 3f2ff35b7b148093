package port_test

import (
	"math/rand"
	"slices"
	"testing"

	"remontoir/api"
	"remontoir/port"
	"remontoir/ring"
)

// behind returns a list in new memory, in which some lies behind it, too.
func behind[E any](l []E, more ...E) []E {
	memory := make([]E, 0, len(l)+len(more))
	return append(append(memory, l...), more...)[:len(l)]
}

// whole returns all the memory of a list, also what lies behind it.
func whole[E any](l []E) []E {
	return l[:cap(l)]
}

// overwrite writes another element to all the memory of a list.
func overwrite[E any](l []E, other E) {
	for i := range whole(l) {
		whole(l)[i] = other
	}
}

// copied returns lines in new memory, with some behind each of their lists.
func copied(l lines) lines {
	out := behind(l, port.Line{Port: api.Port{Cap: 7}}, port.Line{Port: api.Port{From: 7}})
	for i := range out {
		out[i].Under.Buf = behind(l[i].Under.Buf, -8, -9)
		out[i].Got.Buf = behind(l[i].Got.Buf, -5, -6, -7)
	}
	return out
}

// sameWhole reports whether lines are equal, with all the memory behind their lists.
func sameWhole(a, b lines) bool {
	return slices.EqualFunc(whole(a), whole(b), func(x, y port.Line) bool {
		return sameLine(x, y) && slices.Equal(whole(x.Under.Buf), whole(y.Under.Buf)) && slices.Equal(whole(x.Got.Buf), whole(y.Got.Buf))
	})
}

// A given is what one call is given: lines and the arguments.
type given struct {
	l lines
	c call
}

// cases returns calls with all results that there are: each error, and all that may change.
func cases() []given {
	var out []given
	lists := append(wrongLists()[:20], nil, some(), some()[:1], some()[:3], slices.Repeat(some(), 2), append(some()[:3], wrongLines()[9]))
	for _, l := range lists {
		for _, c := range []call{send(0, 0, 7), send(3, 1, 7), send(2, 2, 7), send(0, 3, 7), send(1, 0, 7), send(0, -1, 7), send(0, 4, 7), read(1, 0), read(0, 1), read(3, 2), read(1, 3), read(0, 0), read(1, -1), read(1, 4), deliver()} {
			out = append(out, given{l, c})
		}
	}
	for n, x := range anyLines() {
		l := some()
		i := n % len(l)
		l[i] = x
		for _, c := range []call{send(1, i, 7), read(2, i), deliver()} {
			out = append(out, given{l, c}, given{lines{x}, call{c.name, c.who, 0, c.v}})
		}
	}
	return out
}

// R3: no call changes its arguments, nor what lies behind them.
func TestArgumentsDoNotChange(t *testing.T) {
	for _, x := range cases() {
		g, before := copied(x.l), copied(x.l)
		check(t, g, x.c)
		port.Right(g)
		if !sameWhole(g, before) {
			t.Fatalf("%+v changed its arguments: %+v to %+v", x.c, before, g)
		}
	}
	for n := range 7 {
		p := slices.Repeat(ports{{From: 0, To: 1, Cap: 2}, {From: 2, To: 1, Cap: 4 + n/6}}, 4)[:n]
		g, before := behind(p, api.Port{Cap: 9}), behind(p, api.Port{Cap: 9})
		port.Open(g)
		if !slices.Equal(whole(g), whole(before)) {
			t.Fatalf("Open changed its ports: %v to %v", before, g)
		}
	}
}

// overwriteChanged writes others to all the memory of the rings that have changed, and to the list of lines, if one has.
func overwriteChanged(l, before lines) {
	if same(l, before) {
		return
	}
	for i, x := range l {
		overwriteBuf(x.Under, before[i].Under)
		overwriteBuf(x.Got, before[i].Got)
	}
	overwrite(l, port.Line{Port: api.Port{Cap: -77}})
}

// overwriteBuf writes others to all the memory of a ring whose places have changed; one that begins elsewhere may share them.
func overwriteBuf(r, before ring.Ring) {
	if !slices.Equal(r.Buf, before.Buf) {
		overwrite(r.Buf, -77)
	}
}

// sameChanges reports whether lines are equal in all that has changed since those before: the rest may be shared.
func sameChanges(got, want, before lines) bool {
	if same(want, before) {
		return true
	}
	if len(got) != len(want) {
		return false
	}
	for i, x := range want {
		if got[i].Port != x.Port || !sameChange(got[i].Under, x.Under, before[i].Under) || !sameChange(got[i].Got, x.Got, before[i].Got) {
			return false
		}
	}
	return true
}

// sameChange reports whether two rings are equal in all that has changed.
func sameChange(got, want, before ring.Ring) bool {
	if slices.Equal(want.Buf, before.Buf) {
		want.Buf = got.Buf
	}
	return sameRing(got, want)
}

// R3: what has changed in a result is new memory, spare capacity included: what is written there changes neither arguments nor other results.
func TestResultsAreNewMemory(t *testing.T) {
	changes := 0
	for _, x := range cases() {
		g, before := copied(x.l), copied(x.l)
		want, first, second := x.c.do(copied(x.l)), x.c.do(g), x.c.do(g)
		if !same(first.l, before) {
			changes++
		}
		overwriteChanged(first.l, before)
		if !second.equal(want) || !sameWhole(g, before) {
			t.Fatalf("a change of a result of %+v is seen elsewhere", x)
		}
		if third := x.c.do(g); !third.equal(want) {
			t.Fatalf("a change of a result of %+v changed the next one", x)
		}
		for _, y := range g {
			overwrite(y.Under.Buf, -78)
			overwrite(y.Got.Buf, -78)
		}
		overwrite(g, port.Line{Port: api.Port{Cap: -78}})
		if !sameChanges(second.l, want.l, before) {
			t.Fatalf("a change of the arguments of %+v is seen in a result: %+v, want %+v", x, second, want)
		}
	}
	if changes < 1000 {
		t.Errorf("only %d calls changed lines", changes)
	}
}

// R3: new lines share nothing with one another, nor with other new lines; and no line shares its rings.
func TestOpenIsNewMemory(t *testing.T) {
	p := ports{{From: 0, To: 1, Cap: 2}, {From: 0, To: 1, Cap: 2}, {From: 3, To: 1, Cap: 4}, {From: 2, To: 1, Cap: 1}}
	want, other := opened(t, p), opened(t, p)
	for k := range 2 * len(p) {
		l := opened(t, p)
		spoilt := l[k/2].Under.Buf
		if k%2 == 1 {
			spoilt = l[k/2].Got.Buf
		}
		overwrite(spoilt, -7)
		for i, x := range l {
			if i == k/2 && k%2 == 0 {
				x.Under = want[i].Under
			}
			if i == k/2 && k%2 == 1 {
				x.Got = want[i].Got
			}
			if !sameLine(x, want[i]) {
				t.Errorf("ring %d shares its places with line %d: %+v", k, i, x)
			}
		}
		overwrite(l, port.Line{})
		if !same(other, want) {
			t.Errorf("lines share their memory with other ones: %+v", other)
		}
	}
}

// R3: the rings that a delivery has made share nothing with one another, also where the argument's rings did.
func TestDeliveredRingsAreApart(t *testing.T) {
	r := filled(3, 1, 2, 41)
	x := port.Line{Port: api.Port{From: 0, To: 1, Cap: 3}, Under: r, Got: r}
	given := lines{x, x, x, x}
	want := port.Deliver(given)
	for k := range 2 * len(given) {
		l := port.Deliver(given)
		spoilt := &l[k/2].Under
		if k%2 == 1 {
			spoilt = &l[k/2].Got
		}
		overwrite(spoilt.Buf, -7)
		spoilt.Buf = want[0].Under.Buf
		if k%2 == 1 {
			spoilt.Buf = want[0].Got.Buf
		}
		if !same(l, want) || !sameRing(r, filled(3, 1, 2, 41)) {
			t.Errorf("ring %d shares its places: %+v", k, l)
		}
	}
}

// R3: calls on lines that others were made on before: what each returned stays as it is, whatever follows.
func TestLinesThatBranch(t *testing.T) {
	r := rand.New(rand.NewSource(61))
	for range 40 {
		first := opened(t, anyPorts(r, r.Intn(api.MaxPorts+1)))
		all, copies := []lines{first}, []lines{copied(first)}
		for n := range 300 {
			l := all[max(0, len(all)-1-r.Intn(6))]
			for range 3 {
				got := anyCall(r, l, n).do(l)
				all, copies = append(all, got.l), append(copies, copied(got.l))
			}
		}
		for n, l := range all {
			if !same(l, copies[n]) {
				t.Fatalf("lines %d of %d are not what they were: %+v, %+v", n, len(all), l, copies[n])
			}
		}
	}
}

// R3, R4: no call keeps what it is given: after other calls, and after a change in the same memory, the results are those of new memory.
func TestNothingIsKept(t *testing.T) {
	memory := make(lines, 9)
	var bufs [9][2][16]int
	all := cases()
	for n, x := range all {
		if len(x.l) > len(memory) {
			continue
		}
		want := x.c.do(copied(x.l))
		y := all[(n+1)%len(all)]
		y.c.do(y.l)
		for range 2 {
			l := memory[:copy(memory, x.l)]
			for i := range l {
				l[i].Under.Buf = bufs[i][0][:copy(bufs[i][0][:], x.l[i].Under.Buf)]
				l[i].Got.Buf = bufs[i][1][:copy(bufs[i][1][:], x.l[i].Got.Buf)]
			}
			if got := x.c.do(l); !got.equal(want) {
				t.Fatalf("%+v: %+v, and before %+v", x, got, want)
			}
		}
	}
}

// R3: a nil list and an empty one are the same.
func TestNoListAndAnEmptyOne(t *testing.T) {
	for _, c := range []call{send(0, 0, 7), read(1, 0), deliver()} {
		if a, b := check(t, nil, c), check(t, lines{}, c); !a.equal(b) || len(a.l) != 0 {
			t.Errorf("%+v of no lines: %+v, of an empty list %+v", c, a, b)
		}
		x, y := port.Line{Port: api.Port{From: 0, To: 1, Cap: 1}}, port.Line{Port: api.Port{From: 0, To: 1, Cap: 1}}
		y.Under.Buf, y.Got.Buf = []int{}, []int{}
		if a, b := check(t, lines{x}, c), check(t, lines{y}, c); !a.equal(b) {
			t.Errorf("%+v of nil rings: %+v, of empty ones %+v", c, a, b)
		}
	}
	if !port.Right(nil) || !port.Right(lines{}) {
		t.Error("no lines are not valid")
	}
	for _, p := range []ports{nil, {}} {
		if l, err := port.Open(p); err != api.OK || len(l) != 0 {
			t.Errorf("Open of no ports: %+v, %d", l, err)
		}
	}
}

// R1: numbers at the ends of int in each place of lines and of the arguments.
func TestAnyNumbers(t *testing.T) {
	for _, a := range append(ends(), -1, 0, 1, 2) {
		for _, b := range append(ends(), -1, 0, 1, 2) {
			for _, c := range append(ends(), -1, 0, 1, 2) {
				for _, x := range (lines{
					{Port: api.Port{From: a, To: b, Cap: c}, Under: filled(2, 0, 1, 1), Got: filled(2, 0, 1, 5)},
					{Port: api.Port{From: 0, To: 1, Cap: 2}, Under: filled(2, a, b, 1), Got: filled(2, c, 1, 5)},
					{Port: api.Port{From: 0, To: 1, Cap: 2}, Under: filled(2, 0, c, 1), Got: filled(2, a, b, 5)},
					{Port: api.Port{From: 0, To: 1, Cap: c}, Under: filled(0, a, b, 1), Got: filled(0, b, a, 5)},
				}) {
					for _, l := range []lines{{x}, {x, some()[0]}, {some()[0], x}} {
						for _, d := range []call{send(0, 0, a), send(a, b, c), send(0, 1, c), read(1, 0), read(a, b), read(1, c), deliver()} {
							check(t, l, d)
						}
					}
				}
			}
		}
	}
}

// R4: the results hang on what is given alone, not on earlier calls, and not on a capacity.
func TestDeterminism(t *testing.T) {
	for _, x := range cases() {
		a, b, c := x.c.do(x.l), x.c.do(x.l), x.c.do(copied(x.l))
		if !a.equal(b) || !a.equal(c) {
			t.Fatalf("%+v: %+v, then %+v and %+v", x, a, b, c)
		}
	}
}
