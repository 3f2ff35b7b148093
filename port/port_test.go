package port_test

import (
	"math"
	"slices"
	"testing"

	"remontoir/api"
	"remontoir/port"
	"remontoir/ring"
)

type (
	lines = []port.Line
	ports = []api.Port
)

// ends returns the numbers at the ends of int, and others far away from what is valid.
func ends() []int {
	return []int{math.MinInt, math.MinInt + 1, -api.MaxNum, -1 << 32, 1<<32 + 1, api.MaxNum, math.MaxInt - 1, math.MaxInt}
}

// around returns all numbers from below the valid ones to above them, and the ends.
func around() []int {
	return append(ends(), -3, -2, -1, 0, 1, 2, 3, 4, 5, 6)
}

// messages returns the messages of a valid ring, step by step, back to the place 0 behind the last one.
func messages(r ring.Ring) []int {
	var l []int
	at := r.First
	for len(l) < r.Many {
		l = append(l, r.Buf[at])
		at++
		if at == len(r.Buf) {
			at = 0
		}
	}
	return l
}

// filled returns a ring whose places all hold something different, from a value on.
func filled(places, first, many, value int) ring.Ring {
	r := ring.Ring{First: first, Many: many}
	for i := range places {
		r.Buf = append(r.Buf, value+i)
	}
	return r
}

// holding returns a ring with a number of places that holds the messages, from a place on; in all other places is something else.
func holding(places, first int, l ...int) ring.Ring {
	r := filled(places, first, len(l), 9001)
	for i, v := range l {
		r.Buf[(first+i)%places] = v
	}
	return r
}

// line returns a line from partition 0 to 1 with messages under way and others that have arrived, in rings that begin anywhere.
func line(places int, under, got []int) port.Line {
	return port.Line{Port: api.Port{From: 0, To: 1, Cap: places}, Under: holding(places, places-1, under...), Got: holding(places, places/2, got...)}
}

// some returns as many valid lines as there may be, with different ports, and few, all, or no messages.
func some() lines {
	return lines{
		{Port: api.Port{From: 0, To: 1, Cap: 2}, Under: filled(2, 1, 1, 101), Got: filled(2, 0, 2, 111)},
		{Port: api.Port{From: 3, To: 0, Cap: 4}, Under: filled(4, 3, 4, 201), Got: filled(4, 2, 3, 211)},
		{Port: api.Port{From: 2, To: 3, Cap: 1}, Under: filled(1, 0, 0, 301), Got: filled(1, 0, 1, 311)},
		{Port: api.Port{From: 0, To: 1, Cap: 3}, Under: filled(3, 0, 2, 401), Got: filled(3, 2, 0, 411)},
	}
}

// wrongPorts returns ports that are not valid.
func wrongPorts() ports {
	out := ports{{}, {From: 1, To: 1, Cap: 1}, {From: 3, To: 3, Cap: 4}, {From: -1, To: -1, Cap: 1}, {From: 4, To: 4, Cap: 1}, {From: -1, To: 4, Cap: 5}}
	for _, bad := range append(ends(), -2, -1, 4, 5) {
		out = append(out, api.Port{From: bad, To: 1, Cap: 1}, api.Port{From: 1, To: bad, Cap: 1}, api.Port{From: bad, To: bad, Cap: 1})
	}
	for _, bad := range append(ends(), -1, 0, 5, 6) {
		out = append(out, api.Port{From: 0, To: 1, Cap: bad}, api.Port{From: 3, To: 0, Cap: bad})
	}
	return out
}

// wrongRings returns rings that are not valid rings of a line with a number of places: some are not valid, others have fewer or more places.
func wrongRings(places int) []ring.Ring {
	out := []ring.Ring{{}, {Buf: []int{}}, filled(places-1, 0, 0, 1), filled(places+1, 0, 0, 1), filled(places+1, places, places+1, 1), filled(2*places, 1, 1, 1), {Buf: make([]int, places-1, places)}, {Buf: make([]int, 0, 2*places)}}
	for _, bad := range append(ends(), -2, -1, places+1, 2*places) {
		out = append(out, filled(places, bad, 0, 1), filled(places, 0, bad, 1), filled(places, bad, bad, 1))
	}
	return append(out, filled(places, places, 0, 1), filled(places, places, 1, 1))
}

// wrongLines returns lines each of which is not valid: because of its port, of one ring, or of both.
func wrongLines() lines {
	out := lines{{}}
	good := some()[0]
	for _, p := range wrongPorts() {
		x := good
		x.Port = p
		out = append(out, x)
		if 0 < p.Cap && p.Cap < 9 { // the rings have its places
			x.Under, x.Got = filled(p.Cap, 0, 1, 1), filled(p.Cap, 0, 1, 5)
			out = append(out, x)
		}
	}
	for _, x := range some() {
		for _, r := range wrongRings(x.Port.Cap) {
			a, b, c := x, x, x
			a.Under, b.Got, c.Under, c.Got = r, r, r, r
			out = append(out, a, b, c)
		}
	}
	return out
}

// wrongLists returns lists of lines that are not valid: because of one of them, at each place, or because there are too many.
func wrongLists() []lines {
	var out []lines
	for n, bad := range wrongLines() {
		l := some()
		l[n%len(l)] = bad
		out = append(out, lines{bad}, l, append(some()[:n%4:n%4], bad))
	}
	return append(out, append(some(), some()[0]), slices.Repeat(some(), 2), slices.Repeat(some(), 1<<12), append(some(), port.Line{}))
}

// sameRing reports whether two rings have the same places, with the same values, the same first one, and as many messages.
func sameRing(a, b ring.Ring) bool {
	return slices.Equal(a.Buf, b.Buf) && a.First == b.First && a.Many == b.Many
}

// sameLine reports whether two lines are equal in all of their memory that counts.
func sameLine(a, b port.Line) bool {
	return a.Port == b.Port && sameRing(a.Under, b.Under) && sameRing(a.Got, b.Got)
}

// same reports whether lines are equal, line by line.
func same(a, b lines) bool {
	return slices.EqualFunc(a, b, sameLine)
}

// modelPort is the document's word.
func modelPort(p api.Port) bool {
	return p.From >= 0 && p.From <= 3 && p.To >= 0 && p.To <= 3 && p.From != p.To && p.Cap >= 1 && p.Cap <= 4
}

// modelRing is the document's word: a valid ring with so many places.
func modelRing(r ring.Ring, places int) bool {
	return len(r.Buf) == places && r.First >= 0 && r.First < places && r.Many >= 0 && r.Many <= places
}

// modelRight is the document's word.
func modelRight(l lines) bool {
	for _, x := range l {
		if !modelPort(x.Port) || !modelRing(x.Under, x.Port.Cap) || !modelRing(x.Got, x.Port.Cap) {
			return false
		}
	}
	return len(l) <= 4
}

// A queue is a port, and the messages of its line, as lists.
type queue struct {
	port       api.Port
	under, got []int
}

// queues returns the lists of valid lines.
func queues(l lines) []queue {
	var out []queue
	for _, x := range l {
		out = append(out, queue{x.Port, messages(x.Under), messages(x.Got)})
	}
	return out
}

// equalQueues reports whether lists are those of the same messages, under way and not, in the same order.
func equalQueues(a, b []queue) bool {
	return slices.EqualFunc(a, b, func(x, y queue) bool {
		return x.port == y.port && slices.Equal(x.under, y.under) && slices.Equal(x.got, y.got)
	})
}

// A call is one of those that return lines, with its arguments: Send, Read or Deliver.
type call struct {
	name      string
	who, i, v int
}

func send(from, i, v int) call { return call{"Send", from, i, v} }
func read(to, i int) call      { return call{"Read", to, i, 0} }
func deliver() call            { return call{name: "Deliver"} }

// An answer is all that such a call returns; v is 0, and err OK, for those that don't return it.
type answer struct {
	l   lines
	v   int
	err api.Errno
}

// equal reports whether two answers are the same in all that counts.
func (a answer) equal(b answer) bool {
	return same(a.l, b.l) && a.v == b.v && a.err == b.err
}

// do calls the program.
func (c call) do(l lines) (a answer) {
	switch c.name {
	case "Send":
		a.l, a.err = port.Send(l, c.who, c.i, c.v)
	case "Read":
		a.v, a.l, a.err = port.Read(l, c.who, c.i)
	default:
		a.l = port.Deliver(l)
	}
	return a
}

// model does what the document says to the queues of valid lines, which it changes, and returns the message that was read and the error.
func (c call) model(q []queue) (int, api.Errno) {
	if c.name == "Deliver" {
		for i := range q {
			arrived := slices.Concat(q[i].got, q[i].under)
			q[i].got, q[i].under = arrived[max(0, len(arrived)-q[i].port.Cap):], nil
		}
		return 0, api.OK
	}
	if c.i < 0 || c.i > len(q)-1 {
		return 0, api.ErrNone
	}
	x := &q[c.i]
	if c.name == "Send" {
		switch {
		case x.port.From != c.who:
			return 0, api.ErrDeny
		case len(x.under) == x.port.Cap:
			return 0, api.ErrFull
		}
		x.under = slices.Concat(x.under, []int{c.v})
		return 0, api.OK
	}
	switch {
	case x.port.To != c.who:
		return 0, api.ErrDeny
	case len(x.got) == 0:
		return 0, api.ErrNone
	}
	v := x.got[0]
	x.got = x.got[1:]
	return v, api.OK
}

// check makes a call and holds its answer against the document's words: lines that are not valid, and those beside an error, come back as they are; valid ones stay valid.
func check(t *testing.T, l lines, c call) answer {
	t.Helper()
	got := c.do(l)
	if !modelRight(l) {
		want := api.ErrArg
		if c.name == "Deliver" {
			want = api.OK
		}
		if got.err != want || got.v != 0 || !same(got.l, l) {
			t.Fatalf("%+v of %+v, which are not valid: %+v", c, l, got)
		}
		return got
	}
	q := queues(l)
	v, err := c.model(q)
	if got.err != err || got.v != v || !modelRight(got.l) || !equalQueues(queues(got.l), q) {
		t.Fatalf("%+v of %+v: %+v, want %+v, %d, %d", c, l, got, q, v, err)
	}
	if err != api.OK && !same(got.l, l) {
		t.Fatalf("%+v of %+v: error %d, but %+v", c, l, err, got.l)
	}
	return got
}

// kept checks that a call returns an error, and the lines as they are.
func kept(t *testing.T, l lines, c call, err api.Errno) {
	t.Helper()
	if got := check(t, l, c); got.err != err || got.v != 0 || !same(got.l, l) {
		t.Errorf("%+v of %+v: %+v, want %d", c, l, got, err)
	}
}

// P18.1: ports with all numbers around the valid ones, and at the ends of int.
func TestOpenOfOnePort(t *testing.T) {
	valid := 0
	for _, from := range around() {
		for _, to := range around() {
			for _, places := range around() {
				p := api.Port{From: from, To: to, Cap: places}
				l, err := port.Open(ports{p})
				if !modelPort(p) {
					if err != api.ErrArg || len(l) != 0 {
						t.Fatalf("Open of %+v: %+v, %d", p, l, err)
					}
					continue
				}
				valid++
				none := ring.Ring{Buf: make([]int, places)}
				if err != api.OK || !same(l, lines{{Port: p, Under: none, Got: none}}) || !port.Right(l) {
					t.Fatalf("Open of %+v: %+v, %d", p, l, err)
				}
			}
		}
	}
	if valid != 4*3*4 {
		t.Errorf("%d of them are valid", valid)
	}
}

// P18.1: the edges that the document names.
func TestOpenAtTheEdges(t *testing.T) {
	for _, r := range []struct {
		p    api.Port
		want api.Errno
	}{
		{api.Port{From: 0, To: 3, Cap: 1}, api.OK},
		{api.Port{From: 3, To: 0, Cap: 4}, api.OK},
		{api.Port{From: -1, To: 0, Cap: 1}, api.ErrArg},
		{api.Port{From: 4, To: 0, Cap: 1}, api.ErrArg},
		{api.Port{From: 0, To: -1, Cap: 1}, api.ErrArg},
		{api.Port{From: 0, To: 4, Cap: 1}, api.ErrArg},
		{api.Port{From: 0, To: 0, Cap: 1}, api.ErrArg},
		{api.Port{From: 3, To: 3, Cap: 1}, api.ErrArg},
		{api.Port{From: 0, To: 1, Cap: 0}, api.ErrArg},
		{api.Port{From: 0, To: 1, Cap: 5}, api.ErrArg},
		{api.Port{From: 0, To: 1, Cap: -1}, api.ErrArg},
		{api.Port{From: math.MinInt, To: math.MaxInt, Cap: math.MaxInt}, api.ErrArg},
	} {
		if l, err := port.Open(ports{r.p}); err != r.want || (err != api.OK) != (len(l) == 0) {
			t.Errorf("Open of %+v: %+v, %d", r.p, l, err)
		}
	}
}

// P18.1: no ports, up to MaxPorts, one more, and many; also equal ones, and both ways between the same partitions.
func TestOpenOfMany(t *testing.T) {
	four := ports{{From: 0, To: 1, Cap: 1}, {From: 1, To: 0, Cap: 4}, {From: 0, To: 1, Cap: 1}, {From: 3, To: 2, Cap: 2}}
	for n := range len(four) + 1 {
		l, err := port.Open(four[:n])
		if err != api.OK || len(l) != n || !port.Right(l) {
			t.Fatalf("Open of %v: %+v, %d", four[:n], l, err)
		}
		for i, x := range l {
			if none := (ring.Ring{Buf: make([]int, four[i].Cap)}); !sameLine(x, port.Line{Port: four[i], Under: none, Got: none}) {
				t.Errorf("Open of %v: line %d is %+v", four[:n], i, x)
			}
		}
	}
	for _, n := range []int{5, 6, 8, 100, 1 << 16} {
		if l, err := port.Open(slices.Repeat(four, n)[:n]); err != api.ErrArg || len(l) != 0 {
			t.Errorf("Open of %d ports: %d lines, %d", n, len(l), err)
		}
	}
	for _, bad := range wrongPorts() {
		for i := range four {
			l := slices.Clone(four)
			l[i] = bad
			if got, err := port.Open(l); err != api.ErrArg || len(got) != 0 {
				t.Errorf("Open of %v: %+v, %d", l, got, err)
			}
			if got, err := port.Open(l[:i+1]); err != api.ErrArg || len(got) != 0 {
				t.Errorf("Open of %v: %+v, %d", l[:i+1], got, err)
			}
		}
	}
}

// P18.1: no lines, up to MaxPorts, and more; and lists in which one line is not valid.
func TestRight(t *testing.T) {
	for n := range len(some()) + 1 {
		if !port.Right(some()[:n]) {
			t.Errorf("Right of %d lines: false", n)
		}
	}
	if !port.Right(slices.Repeat(some()[:1], api.MaxPorts)) {
		t.Error("Right of equal lines: false")
	}
	for n := 1; n <= 3; n++ {
		if port.Right(append(some(), some()[:n]...)) {
			t.Errorf("Right of %d lines: true", len(some())+n)
		}
	}
	for _, l := range wrongLists() {
		if port.Right(l) {
			t.Errorf("Right of %d lines, %+v: true", len(l), l[:min(4, len(l))])
		}
	}
}

// P18.1: lines with all numbers around the valid ones, in their ports and their rings.
func TestRightOfOneLine(t *testing.T) {
	var right [2]int
	try := func(x port.Line) {
		want := modelRight(lines{x})
		if got := port.Right(lines{x}); got != want {
			t.Fatalf("Right of %+v: %v", x, got)
		}
		if want {
			right[1]++
		} else {
			right[0]++
		}
	}
	for _, from := range around() {
		for _, to := range around() {
			for _, places := range around() {
				for buf := range 6 {
					try(port.Line{Port: api.Port{From: from, To: to, Cap: places}, Under: filled(buf, 0, buf, 1), Got: filled(buf, 0, 0, 1)})
				}
			}
		}
	}
	for places := range 6 {
		for buf := range 7 {
			for _, first := range around() {
				for _, many := range around() {
					for other := max(1, places-1); other <= places+1; other++ {
						a, b := filled(buf, first, many, 1), filled(other, other/2, other, 5)
						p := api.Port{From: 2, To: 1, Cap: places}
						try(port.Line{Port: p, Under: a, Got: b})
						try(port.Line{Port: p, Under: b, Got: a})
						try(port.Line{Port: p, Under: a, Got: a})
					}
				}
			}
		}
	}
	if right[0] < 1000 || right[1] < 200 {
		t.Errorf("too few of a kind: %v", right)
	}
}

// P18.1: the spare capacity of a buffer is not places.
func TestSpareCapacityIsNoPlaces(t *testing.T) {
	for _, n := range []int{0, 1, 2, 3, 5} {
		x := port.Line{Port: api.Port{From: 0, To: 1, Cap: 4}, Under: ring.Ring{Buf: make([]int, 4)}, Got: ring.Ring{Buf: make([]int, n, 8)}}
		y := x
		y.Under, y.Got = x.Got, x.Under
		if port.Right(lines{x}) || port.Right(lines{y}) {
			t.Errorf("%d places are four", n)
		}
	}
}

// The first sentence of the promises: lines that are not valid, or too many, are ErrArg, ahead of every other error, and do not change.
func TestLinesThatAreNotValid(t *testing.T) {
	for n, l := range wrongLists() {
		i := min(n%4, len(l)-1)
		p := l[i].Port
		for _, c := range []call{send(p.From, i, 7), send(p.From+1, i, 7), send(0, 0, 0), send(0, -1, 7), send(0, len(l), 7), send(9, math.MinInt, 7), send(9, math.MaxInt, 7), read(p.To, i), read(p.To+1, i), read(1, 0), read(1, -1), read(1, len(l)), read(9, math.MinInt), read(9, math.MaxInt)} {
			kept(t, l, c, api.ErrArg)
		}
		kept(t, l, deliver(), api.OK)
	}
}

// P18.2: which line there is, and which is not.
func TestNumbersOfLines(t *testing.T) {
	for n := range len(some()) + 1 {
		l := some()[:n]
		for _, i := range append(ends(), -2, -1, n, n+1, 4, 5) {
			for _, who := range append(ends(), -1, 0, 1, 2, 3, 4) {
				if i >= 0 && i < n {
					continue
				}
				kept(t, l, send(who, i, 7), api.ErrNone)
				kept(t, l, read(who, i), api.ErrNone)
			}
		}
		for i := range n {
			if got := check(t, l, send(l[i].Port.From, i, 7)); got.err == api.ErrNone {
				t.Errorf("Send on line %d of %d: %+v", i, n, got)
			}
			if got := check(t, l, read(l[i].Port.To, i)); got.err != api.OK && l[i].Got.Many > 0 {
				t.Errorf("Read of line %d of %d: %+v", i, n, got)
			}
		}
	}
}

// P18.2: all others than the sender and the reader, ahead of a full ring, and of an empty one.
func TestOnlyFromAndTo(t *testing.T) {
	for from := range api.MaxParts {
		for to := range api.MaxParts {
			if from == to {
				continue
			}
			for many := range 3 {
				p := api.Port{From: from, To: to, Cap: 2}
				l := append(some()[:2], port.Line{Port: p, Under: filled(2, 1, many, 1), Got: filled(2, 0, many, 5)})
				for _, who := range around() {
					if got := check(t, l, send(who, 2, 7)); (got.err == api.ErrDeny) != (who != from) {
						t.Errorf("Send of %d on %+v: %+v", who, p, got)
					}
					if got := check(t, l, read(who, 2)); (got.err == api.ErrDeny) != (who != to) {
						t.Errorf("Read of %d on %+v: %+v", who, p, got)
					}
				}
			}
		}
	}
}

// P18.2: which error is returned where several apply.
func TestFirstError(t *testing.T) {
	full, none := lines{line(2, []int{1, 2}, nil)}, lines{}
	for _, r := range []struct {
		l    lines
		c    call
		want api.Errno
	}{
		{full, send(0, 0, 7), api.ErrFull},
		{full, send(1, 0, 7), api.ErrDeny},
		{full, send(0, 1, 7), api.ErrNone},
		{full, send(1, -1, 7), api.ErrNone},
		{full, read(1, 0), api.ErrNone},
		{full, read(0, 0), api.ErrDeny},
		{full, read(0, 1), api.ErrNone},
		{full, read(1, -1), api.ErrNone},
		{none, send(0, 0, 7), api.ErrNone},
		{none, send(-1, -1, 7), api.ErrNone},
		{none, read(0, 0), api.ErrNone},
		{none, read(-1, -1), api.ErrNone},
		{lines{{}}, send(0, 0, 7), api.ErrArg},
		{lines{{}}, send(1, 0, 7), api.ErrArg},
		{lines{{}}, send(0, 1, 7), api.ErrArg},
		{lines{{}}, read(0, 0), api.ErrArg},
		{lines{{}}, read(1, 0), api.ErrArg},
		{lines{{}}, read(0, 1), api.ErrArg},
		{append(some(), some()...), send(9, 9, 7), api.ErrArg},
		{append(some(), some()...), read(9, 9), api.ErrArg},
	} {
		kept(t, r.l, r.c, r.want)
	}
}

// P18.2, P18.3: any messages, also equal ones.
func TestAnyMessages(t *testing.T) {
	for _, v := range around() {
		for _, w := range around() {
			l := lines{line(3, nil, nil)}
			for _, x := range []int{v, w, v} {
				l = check(t, l, send(0, 0, x)).l
			}
			kept(t, l, send(0, 0, v), api.ErrFull)
			l = check(t, l, deliver()).l
			for _, x := range []int{v, w, v} {
				got := check(t, l, read(1, 0))
				if got.v != x || got.err != api.OK {
					t.Fatalf("%d, %d, %d are sent: %+v", v, w, v, got)
				}
				l = got.l
			}
			kept(t, l, read(1, 0), api.ErrNone)
		}
	}
}

// anyLines returns all lines with up to MaxQueue places, whose rings begin anywhere, and have any number of messages.
func anyLines() lines {
	var out lines
	for places := 1; places <= api.MaxQueue; places++ {
		for a := range places * (places + 1) {
			for b := range places * (places + 1) {
				out = append(out, port.Line{Port: api.Port{From: 1, To: 2, Cap: places}, Under: filled(places, a%places, a/places, 101), Got: filled(places, b%places, b/places, 111)})
			}
		}
	}
	return out
}

// P18.2, P18.3: each call of all lines there are, alone, and beside others.
func TestAllLines(t *testing.T) {
	counts := map[string]int{}
	for n, x := range anyLines() {
		i := n % 4
		l := some()
		l[i] = x
		for _, c := range []call{send(1, 0, 7), send(2, 0, 7), read(2, 0), read(1, 0), deliver()} {
			check(t, lines{x}, c)
			if c.name != "Deliver" {
				c.i = i
			}
			got := check(t, l, c)
			counts[c.name+" "+string(rune('0'+got.err))]++
		}
		switch room := x.Port.Cap - x.Got.Many; {
		case x.Under.Many == 0:
			counts["nothing"]++
		case room == 0:
			counts["no room"]++
		case x.Under.Many > room:
			counts["room for some"]++
		case x.Under.Many == x.Port.Cap:
			counts["room for all places"]++
		default:
			counts["room for all"]++
		}
	}
	for _, x := range []string{"Send 0", "Send 3", "Send 7", "Read 0", "Read 4", "Read 7", "Deliver 0", "nothing", "no room", "room for some", "room for all", "room for all places"} {
		if counts[x] < 30 {
			t.Errorf("too few of a kind: %v", counts)
		}
	}
}

// P18.2: Send is Push of what is under way, Read is Pop of what has arrived, and nothing else changes on the line.
func TestSendAndReadOfRings(t *testing.T) {
	for _, x := range anyLines() {
		want := x
		want.Under, _ = ring.Push(x.Under, 7)
		if got, _ := port.Send(lines{x}, 1, 0, 7); !same(got, lines{want}) {
			t.Errorf("Send on %+v: %+v", x, got)
		}
		want = x
		_, want.Got, _ = ring.Pop(x.Got)
		if _, got, _ := port.Read(lines{x}, 2, 0); !same(got, lines{want}) {
			t.Errorf("Read of %+v: %+v", x, got)
		}
	}
}

// P18.3: what has arrived, and what is lost.
func TestDeliver(t *testing.T) {
	for _, r := range []struct {
		places           int
		under, got, want []int
	}{
		{1, nil, nil, nil},
		{1, nil, []int{5}, []int{5}},
		{1, []int{7}, nil, []int{7}},
		{1, []int{7}, []int{5}, []int{7}},
		{2, []int{7}, []int{5}, []int{5, 7}},
		{2, []int{7, 8}, nil, []int{7, 8}},
		{2, []int{7, 8}, []int{5}, []int{7, 8}},
		{2, []int{7}, []int{5, 6}, []int{6, 7}},
		{2, []int{7, 8}, []int{5, 6}, []int{7, 8}},
		{2, nil, []int{5, 6}, []int{5, 6}},
		{3, []int{7}, []int{4, 5, 6}, []int{5, 6, 7}},
		{3, []int{7, 8}, []int{5, 6}, []int{6, 7, 8}},
		{4, []int{7}, []int{4, 5, 6}, []int{4, 5, 6, 7}},
		{4, []int{7, 8}, []int{4, 5, 6}, []int{5, 6, 7, 8}},
		{4, []int{6, 7, 8}, []int{1, 2, 3, 4}, []int{4, 6, 7, 8}},
		{4, []int{5, 6, 7, 8}, []int{1, 2, 3, 4}, []int{5, 6, 7, 8}},
		{4, []int{5, 6, 7, 8}, nil, []int{5, 6, 7, 8}},
		{4, []int{5, 5, 5}, []int{5, 6}, []int{6, 5, 5, 5}},
		{2, []int{math.MaxInt, math.MinInt}, []int{0}, []int{math.MaxInt, math.MinInt}},
	} {
		l := port.Deliver(lines{line(r.places, r.under, r.got)})
		if !port.Right(l) || l[0].Under.Many != 0 || !slices.Equal(messages(l[0].Got), r.want) {
			t.Errorf("Deliver of %v after %v, with %d places: %+v", r.under, r.got, r.places, l)
		}
		if again := port.Deliver(l); !same(again, l) {
			t.Errorf("Deliver with nothing under way: %+v, want %+v", again, l)
		}
	}
}

// P18.3: a line on which nothing is under way does not change.
func TestDeliverNothing(t *testing.T) {
	for _, x := range anyLines() {
		if x.Under.Many == 0 && !same(port.Deliver(lines{x}), lines{x}) {
			t.Errorf("Deliver of %+v changed it", x)
		}
	}
	for _, l := range []lines{nil, {}} {
		if got := port.Deliver(l); len(got) != 0 {
			t.Errorf("Deliver of no lines: %+v", got)
		}
	}
}

// The example of the chapter.
func TestExample(t *testing.T) {
	l, err := port.Open(ports{{From: 0, To: 1, Cap: 1}})
	if err != api.OK {
		t.Fatalf("Open: %d", err)
	}
	if l, err = port.Send(l, 0, 0, 7); err != api.OK {
		t.Errorf("Send: %d", err)
	}
	v, l, err := port.Read(l, 1, 0)
	if v != 0 || err != api.ErrNone {
		t.Errorf("Read: %d, %d", v, err)
	}
	v, l, err = port.Read(port.Deliver(l), 1, 0)
	if v != 7 || err != api.OK {
		t.Errorf("Read: %d, %d", v, err)
	}
	if v, _, err = port.Read(l, 1, 0); v != 0 || err != api.ErrNone {
		t.Errorf("Read: %d, %d", v, err)
	}
}
