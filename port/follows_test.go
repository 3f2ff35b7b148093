package port_test

import (
	"math/rand"
	"slices"
	"testing"

	"remontoir/api"
	"remontoir/port"
)

// opened returns new lines of ports that are valid.
func opened(t *testing.T, l ports) lines {
	t.Helper()
	out, err := port.Open(l)
	if err != api.OK {
		t.Fatalf("Open of %+v: %d", l, err)
	}
	return out
}

// steps returns all calls that partitions may make on the lines, and some that are denied, with a message.
func steps(l lines, v int) []call {
	out := []call{deliver(), send(9, len(l), v), read(9, -1)}
	for i, x := range l {
		out = append(out, send(x.Port.From, i, v), read(x.Port.To, i), send(x.Port.To, i, v), read(x.Port.From, i))
	}
	return out
}

// A diary is what was sent on a line, in order, and how much of it was lost or read already; of what was sent, the rest has arrived, or is under way.
type diary struct {
	sent       []int
	gone, here int
}

// follow reads what a call did on line i, from its results alone.
func (d *diary) follow(t *testing.T, c call, i int, got answer) {
	t.Helper()
	x := got.l[i]
	switch {
	case c.name == "Deliver":
		d.here = len(d.sent)
		d.gone = max(d.gone, d.here-x.Port.Cap)
	case c.i != i || got.err != api.OK:
	case c.name == "Send":
		d.sent = append(d.sent, c.v)
	default:
		if d.gone >= d.here || got.v != d.sent[d.gone] {
			t.Fatalf("%+v: %d is read, of %v, of which %d are gone and %d have arrived", c, got.v, d.sent, d.gone, d.here)
		}
		d.gone++
	}
	if !slices.Equal(messages(x.Got), d.sent[d.gone:d.here]) || !slices.Equal(messages(x.Under), d.sent[d.here:]) {
		t.Fatalf("after %+v line %d is %+v, of %v, of which %d are gone and %d have arrived", c, i, x, d.sent, d.gone, d.here)
	}
}

// P18.1 to P18.4: all lists of up to seven calls on one line, of up to six calls on two lines.
func TestAllShortListsOfCalls(t *testing.T) {
	var walk func(l lines, v, n int)
	walk = func(l lines, v, n int) {
		if n == 0 {
			return
		}
		for _, c := range steps(l, v) {
			got := check(t, l, c)
			others(t, l, c, got)
			if got.err == api.OK {
				walk(got.l, v+1, n-1)
			}
		}
	}
	for a := 1; a <= 3; a++ {
		walk(opened(t, ports{{From: 0, To: 1, Cap: a}}), 1, 7)
		walk(opened(t, ports{{From: 0, To: 1, Cap: a}, {From: 1, To: 0, Cap: 1}}), 1, 6)
	}
}

// others checks that nothing has changed but on the line of a call: no other line, nor what has arrived by Send, nor what is under way by Read (P18.5).
func others(t *testing.T, l lines, c call, got answer) {
	t.Helper()
	if c.name == "Deliver" {
		return
	}
	for i, x := range got.l {
		want := l[i]
		if i == c.i && c.name == "Send" {
			want.Under = x.Under
		}
		if i == c.i && c.name == "Read" {
			want.Got = x.Got
		}
		if !sameLine(x, want) {
			t.Fatalf("%+v of %+v changed line %d: %+v", c, l, i, x)
		}
	}
}

// anyPorts returns valid ports by chance.
func anyPorts(r *rand.Rand, n int) ports {
	var out ports
	for range n {
		from := r.Intn(api.MaxParts)
		out = append(out, api.Port{From: from, To: (from + 1 + r.Intn(api.MaxParts-1)) % api.MaxParts, Cap: 1 + r.Intn(api.MaxQueue)})
	}
	return out
}

// anyCall returns a call by chance; most of them are permitted.
func anyCall(r *rand.Rand, l lines, v int) call {
	if len(l) == 0 || r.Intn(12) == 0 {
		return []call{deliver(), send(r.Intn(5)-1, r.Intn(7)-1, v), read(r.Intn(5)-1, r.Intn(7)-1)}[r.Intn(3)]
	}
	i := r.Intn(len(l))
	return []call{send(l[i].Port.From, i, v), send(l[i].Port.From, i, v), read(l[i].Port.To, i), deliver()}[r.Intn(4)]
}

// P18.4, P18.5: long runs by chance; what is read is what was sent, in the same order, none twice, and what a delivery had no room for alone is lost.
func TestRunsByChance(t *testing.T) {
	r := rand.New(rand.NewSource(51))
	counts := map[string]int{}
	for k := range 200 {
		l := opened(t, anyPorts(r, k%(api.MaxPorts+1)))
		d := make([]diary, len(l))
		for n := range 600 {
			v := n
			if k%3 == 0 { // equal messages, too
				v = r.Intn(3) - 1
			}
			c := anyCall(r, l, v)
			got := check(t, l, c)
			others(t, l, c, got)
			for i := range l {
				gone := d[i].gone
				d[i].follow(t, c, i, got)
				if c.name == "Deliver" && d[i].gone > gone {
					counts["lost"]++
				}
			}
			counts[c.name+" "+string(rune('0'+got.err))]++
			l = got.l
		}
	}
	for _, x := range []string{"Send 0", "Send 3", "Send 4", "Send 7", "Read 0", "Read 4", "Read 7", "Deliver 0", "lost"} {
		if counts[x] < 300 {
			t.Errorf("too few of a kind: %v", counts)
		}
	}
}

// P18.4: with messages that are all different, and with no model: the numbers that are read increase, and between two that are read one is missing only if there was no room for it.
func TestReadIsWhatWasSent(t *testing.T) {
	r := rand.New(rand.NewSource(52))
	lost := 0
	for k := range 300 {
		p := api.Port{From: 2, To: 0, Cap: 1 + k%api.MaxQueue}
		l := opened(t, ports{p})
		sent, last, waiting := 0, 0, 0
		for range 400 {
			switch r.Intn(5) {
			case 0:
				l = port.Deliver(l)
				waiting = 0
			case 1:
				v, next, err := port.Read(l, 0, 0)
				if err == api.OK && (v <= last || v > sent || v > last+1 && sent-last <= p.Cap) {
					t.Fatalf("%d is read after %d, and %d are sent", v, last, sent)
				}
				if err == api.OK {
					lost += v - last - 1
					last = v
				}
				l = next
			default:
				next, err := port.Send(l, 2, 0, sent+1)
				if (err == api.OK) != (waiting < p.Cap) {
					t.Fatalf("Send with %d under way: %d", waiting, err)
				}
				if err == api.OK {
					sent++
					waiting++
				}
				l = next
			}
		}
	}
	if lost < 1000 {
		t.Errorf("only %d are lost", lost)
	}
}

// P18.4: as long as there is room for all in each delivery, none is lost.
func TestNoneIsLost(t *testing.T) {
	r := rand.New(rand.NewSource(53))
	for k := range 100 {
		p := api.Port{From: 1, To: 3, Cap: 1 + k%api.MaxQueue}
		l := opened(t, ports{p})
		var sent, got []int
		for range 300 {
			for range r.Intn(p.Cap + 1) {
				v := r.Intn(4)
				next, err := port.Send(l, 1, 0, v)
				if err != api.OK {
					t.Fatalf("Send on %+v: %d", l, err)
				}
				l, sent = next, append(sent, v)
			}
			l = port.Deliver(l)
			for {
				v, next, err := port.Read(l, 3, 0)
				if err != api.OK {
					break
				}
				l, got = next, append(got, v)
			}
		}
		if !slices.Equal(sent, got) {
			t.Fatalf("sent %v, read %v", sent, got)
		}
	}
}

// P18.5: what happens on one line is the same, whatever happens on the others.
func TestLinesDoNotDisturbOneAnother(t *testing.T) {
	r := rand.New(rand.NewSource(54))
	for range 200 {
		p := anyPorts(r, 1+r.Intn(api.MaxPorts))
		i := r.Intn(len(p))
		l, alone := opened(t, p), opened(t, p[i:i+1])
		for n := range 300 {
			c := anyCall(r, l, n)
			got := c.do(l)
			if c.name == "Deliver" || c.i == i {
				c.i = 0
				want := c.do(alone)
				if got.v != want.v || got.err != want.err {
					t.Fatalf("%+v on line %d of %+v: %+v, and alone %+v", c, i, p, got, want)
				}
				alone = want.l
			}
			l = got.l
			if !sameLine(l[i], alone[0]) {
				t.Fatalf("line %d of %+v is %+v, and alone %+v", i, p, l[i], alone[0])
			}
		}
	}
}

// before returns a line after calls by chance, the last one of which is a delivery.
func before(t *testing.T, r *rand.Rand, p api.Port) lines {
	t.Helper()
	l := opened(t, ports{p})
	for n := range r.Intn(20) {
		l = anyCall(r, l, 500+n).do(l).l
	}
	return port.Deliver(l)
}

// P18.6: with the same messages since the last delivery the result of Send is the same, and so is what is under way, whatever was sent before and whatever is read.
func TestSendDoesNotDependOnWhatWasRead(t *testing.T) {
	r := rand.New(rand.NewSource(55))
	counts := map[string]int{}
	for k := range 9000 {
		p := api.Port{From: 0, To: 3, Cap: 1 + k%api.MaxQueue}
		a, b := before(t, r, p), before(t, r, p)
		for n := range p.Cap + 3 {
			for range r.Intn(3) {
				_, b, _ = port.Read(b, 3, 0)
			}
			if r.Intn(9) == 0 {
				_, a, _ = port.Read(a, 3, 0)
			}
			x, errA := port.Send(a, 0, 0, n)
			y, errB := port.Send(b, 0, 0, n)
			if errA != errB || !sameRing(x[0].Under, y[0].Under) {
				t.Fatalf("Send of %d on %+v: %+v, %d, and on %+v: %+v, %d", n, a, x, errA, b, y, errB)
			}
			if want := []api.Errno{api.OK, api.ErrFull}[n/p.Cap%2]; n < 2*p.Cap && errA != want {
				t.Fatalf("Send of %d on %+v: %d", n, a, errA)
			}
			counts["error "+string(rune('0'+errA))]++
			counts["arrived "+string(rune('0'+a[0].Got.Many))+string(rune('0'+b[0].Got.Many))]++
			a, b = x, y
		}
	}
	for _, x := range []string{"error 0", "error 3", "arrived 00", "arrived 40", "arrived 42", "arrived 24"} {
		if counts[x] < 50 {
			t.Errorf("too few of a kind: %v", counts)
		}
	}
}

// P18.6: all numbers of messages that were read, and all that were sent since, with the same message sent then.
func TestSendAfterAllReads(t *testing.T) {
	for places := 1; places <= api.MaxQueue; places++ {
		for arrived := range places + 1 {
			for under := range places + 1 {
				l := opened(t, ports{{From: 0, To: 1, Cap: places}})
				for v := range arrived {
					l, _ = port.Send(l, 0, 0, v)
				}
				l = port.Deliver(l)
				for v := range under {
					l, _ = port.Send(l, 0, 0, 10+v)
				}
				first, err := port.Send(l, 0, 0, 99)
				if want := under == places; (err == api.ErrFull) != want {
					t.Errorf("Send on %+v: %d", l, err)
				}
				for range arrived + 1 {
					_, l, _ = port.Read(l, 1, 0)
					next, again := port.Send(l, 0, 0, 99)
					if again != err || !sameRing(next[0].Under, first[0].Under) {
						t.Errorf("Send on %+v: %+v, %d, and before it was read %+v, %d", l, next, again, first, err)
					}
				}
			}
		}
	}
}
