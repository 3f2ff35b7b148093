package world_test

import (
	"math/rand"
	"slices"
	"testing"

	"remontoir/api"
	"remontoir/kernel"
	"remontoir/world"
)

// modelOwn is the document's word, with the places of what is left out.
func modelOwn(l script, p int) script {
	out := make(script, len(l))
	for i := range l {
		out[i] = slices.DeleteFunc(slices.Clone(l[i]), func(c cmd) bool { return c.Part != p })
	}
	return out
}

// modelSends is the document's word, likewise.
func modelSends(l script) script {
	out := make(script, len(l))
	for i := range l {
		out[i] = slices.DeleteFunc(slices.Clone(l[i]), func(c cmd) bool { return c.Kind != 2 })
	}
	return out
}

// owned checks Own, and returns what it returns.
func owned(t *testing.T, l script, p int) script {
	t.Helper()
	got := world.Own(l, p)
	if !sameScript(got, modelOwn(l, p)) {
		t.Fatalf("Own of %+v, %d: %+v", l, p, got)
	}
	return got
}

// sends checks Sends, and returns what it returns.
func sends(t *testing.T, l script) script {
	t.Helper()
	got := world.Sends(l)
	if !sameScript(got, modelSends(l)) {
		t.Fatalf("Sends of %+v: %+v", l, got)
	}
	return got
}

// P22.2: what a partition requests, and what is sent, in each tick in its order.
func TestOwnAndSends(t *testing.T) {
	x := with(2, 9, 9, 0, 0, 2, 1, 1, 1)
	l := script{
		{send(0, 0, 1), send(1, 0, 2), send(0, 1, 3), add(1, x), send(7, 0, 4)},
		nil,
		{read(1, 0), release(-1, 0, 5), cmd{Part: 0, Kind: 9, I: 8, V: 7, T: x}},
		{},
		{add(0, x), change(0, 1, with(1, 4, 4, 3, 0, 1)), drop(0, 2), release(0, 0, 9), read(0, 3)},
	}
	for _, y := range []struct {
		got, want script
	}{
		{owned(t, l, 0), script{{send(0, 0, 1), send(0, 1, 3)}, {}, {cmd{Part: 0, Kind: 9, I: 8, V: 7, T: x}}, {}, l[4]}},
		{owned(t, l, 1), script{{send(1, 0, 2), add(1, x)}, {}, {read(1, 0)}, {}, {}}},
		{owned(t, l, 7), script{{send(7, 0, 4)}, {}, {}, {}, {}}},
		{owned(t, l, -1), script{{}, {}, {release(-1, 0, 5)}, {}, {}}},
		{owned(t, l, 2), make(script, 5)},
		{sends(t, l), script{{send(0, 0, 1), send(1, 0, 2), send(0, 1, 3), send(7, 0, 4)}, {}, {}, {}, {}}},
		{sends(t, l[1:]), make(script, 4)},
	} {
		if !sameScript(y.got, y.want) {
			t.Errorf("%+v, want %+v", y.got, y.want)
		}
	}
}

// P22.2: any numbers of partitions, and of Kinds.
func TestOwnOfAnyNumber(t *testing.T) {
	numbers := append(ends(), -2, -1, 0, 1, 2, 3, 4, 5, 6, 7, 8)
	l := make(script, 3)
	for _, n := range numbers {
		l[0] = append(l[0], cmd{Part: n, Kind: n, I: n, V: n, T: with(n, n, n, n, n, n)})
		l[2] = append(l[2], send(n, 1, n), cmd{Part: 1, Kind: n}, cmd{Part: n, Kind: 1})
	}
	for _, n := range append(numbers, 100, -100) {
		got := owned(t, l, n)
		want := [3]int{1, 0, 2}
		switch {
		case n == 1:
			want[2] += len(numbers)
		case !slices.Contains(numbers, n):
			want = [3]int{}
		}
		for i := range got {
			if len(got[i]) != want[i] {
				t.Errorf("Own of %d: %d requests in tick %d", n, len(got[i]), i)
			}
		}
	}
	if got := sends(t, l); len(got[0]) != 1 || len(got[1]) != 0 || len(got[2]) != len(numbers)+1 {
		t.Errorf("%+v", got)
	}
}

// P22.2: as many ticks, also where there are none, and more than a script may have, and more requests.
func TestHowManyTicksOfOwn(t *testing.T) {
	for _, n := range []int{0, 1, 2, 99, api.MaxBound - 1, api.MaxBound, api.MaxBound + 1, 1 << 16} {
		l := make(script, n)
		for p := -1; p < 3; p++ {
			if got := owned(t, l, p); len(got) != n {
				t.Errorf("%d ticks of %d", len(got), n)
			}
		}
		if got := sends(t, l); len(got) != n {
			t.Errorf("%d ticks of %d", len(got), n)
		}
		for i := range l {
			l[i] = cmds{send(i%2, 0, i), read(1, i)}
		}
		own, sent := owned(t, l, 1), sends(t, l)
		for i := range n {
			if want := (l)[i][1-i%2:]; !slices.EqualFunc(own[i], want, sameCmd) || len(sent[i]) != 1 || sent[i][0].V != i {
				t.Fatalf("tick %d of %d: %+v, %+v", i, n, own[i], sent[i])
			}
		}
	}
	for _, many := range []int{99, 100, 101, 1 << 16} {
		l := ahead(3, 1, slices.Repeat(cmds{send(4, 5, 6), release(4, 5, 6)}, many)...)
		if own, sent := owned(t, l, 4), sends(t, l); len(own[1]) != 2*many || len(sent[1]) != many || len(own) != 3 || len(sent) != 3 {
			t.Errorf("%d, %d of %d requests", len(own[1]), len(sent[1]), many)
		}
	}
	for _, l := range []script{nil, {}} {
		if own, sent := owned(t, l, 0), sends(t, l); len(own) != 0 || len(sent) != 0 {
			t.Errorf("%+v, %+v", own, sent)
		}
	}
}

// P22.2: all scripts of two ticks with up to two requests of each of some forms.
func TestAllShortScriptsOfOwn(t *testing.T) {
	options := cmds{send(0, 0, 1), send(1, 0, 2), read(0, 0), release(1, 0, 1), add(0, with(2, 4, 4, 0, 0, 1))}
	ticks := []cmds{nil}
	for _, a := range options {
		ticks = append(ticks, cmds{a})
		for _, b := range options {
			ticks = append(ticks, cmds{a, b})
		}
	}
	for _, x := range ticks {
		for _, y := range ticks {
			l := script{x, y}
			zero, one, sent := owned(t, l, 0), owned(t, l, 1), sends(t, l)
			for i := range l {
				if len(zero[i])+len(one[i]) != len(l[i]) {
					t.Errorf("%+v: %+v and %+v", l, zero, one)
				}
			}
			if !sameScript(sends(t, zero), owned(t, sent, 0)) || !sameScript(owned(t, zero, 0), zero) || !sameScript(sends(t, sent), sent) {
				t.Errorf("%+v: %+v and %+v", l, zero, sent)
			}
		}
	}
}

// P22.2: scripts by chance: what all partitions request is all that is requested.
func TestOwnByChance(t *testing.T) {
	r := rand.New(rand.NewSource(81))
	for range 400 {
		l := make(script, r.Intn(12))
		counts := map[int]int{}
		for i := range l {
			for range r.Intn(8) {
				c := anyCmd(r, some())
				l[i] = append(l[i], c)
				counts[c.Part]++
			}
		}
		for p, n := range counts {
			for _, requests := range owned(t, l, p) {
				n -= len(requests)
			}
			if n != 0 {
				t.Errorf("%d requests of %d are left out", n, p)
			}
		}
		sends(t, l)
	}
}

// P22.2: what is not sent may have the numbers of what is.
func TestOnlySends(t *testing.T) {
	for kind := range 9 {
		c := cmd{Part: 2, Kind: kind, I: 2, V: 2, T: with(2, 2, 2, 2, 2, 2)}
		if got := sends(t, script{{c}}); len(got[0]) == 1 != (kind == kernel.Send) {
			t.Errorf("Kind %d: %+v", kind, got)
		}
	}
}
