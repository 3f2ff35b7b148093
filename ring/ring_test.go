package ring_test

import (
	"math"
	"math/rand"
	"slices"
	"testing"

	"remontoir/api"
	"remontoir/ring"
)

// isRight is the document's word, told once more in the plainest form.
func isRight(r ring.Ring) bool {
	places := len(r.Buf)
	if places < 1 {
		return false
	}
	if r.First < 0 || r.First >= places {
		return false
	}
	return r.Many >= 0 && r.Many <= places
}

// same reports whether two rings have the same places, with the same values, the same first one, and as many messages.
func same(a, b ring.Ring) bool {
	return slices.Equal(a.Buf, b.Buf) && a.First == b.First && a.Many == b.Many
}

// copyOf returns r in memory of its own.
func copyOf(r ring.Ring) ring.Ring {
	return ring.Ring{Buf: append([]int{}, r.Buf...), First: r.First, Many: r.Many}
}

// roomy returns r in memory of its own, with spare places behind its buffer that hold something.
func roomy(r ring.Ring, spare int) ring.Ring {
	buf := make([]int, 0, len(r.Buf)+spare)
	buf = append(buf, r.Buf...)
	for i := range spare {
		buf = append(buf, 9000+i)
	}
	return ring.Ring{Buf: buf[:len(r.Buf)], First: r.First, Many: r.Many}
}

// messages is the document's word: step by step, back to the place 0 behind the last one.
func messages(r ring.Ring) []int {
	var l []int
	at := r.First
	for len(l) < r.Many {
		l = append(l, r.Buf[at])
		at++
		if at == len(r.Buf) {
			at = 0
		}
	}
	return l
}

// filled returns a ring whose places all hold something different, none of them 0.
func filled(places, first, many int) ring.Ring {
	r := ring.Ring{First: first, Many: many}
	for i := range places {
		r.Buf = append(r.Buf, 101+i)
	}
	return r
}

// rightRings returns all the ways in which a ring of few places may lie: empty, full, wrapped, of one place, also of more places than New gives.
func rightRings() []ring.Ring {
	var out []ring.Ring
	for places := 1; places <= api.MaxQueue+3; places++ {
		for first := range places {
			for many := range places + 1 {
				r := filled(places, first, many)
				out = append(out, r, roomy(r, 3))
			}
		}
	}
	ends := []int{math.MaxInt, math.MinInt, 0, -1}
	return append(out, ring.Ring{Buf: ends, First: 3, Many: 3}, ring.Ring{Buf: ends, First: 2, Many: 4})
}

// wrongRings returns rings of few places, or none, in which something is beyond its ends.
func wrongRings() []ring.Ring {
	var out []ring.Ring
	for places := range api.MaxQueue + 3 {
		numbers := []int{math.MinInt, math.MinInt + 1, -places - 1, -places, -2, -1, 0, 1, places - 1, places, places + 1, 2 * places, 2*places + 1, math.MaxInt - 1, math.MaxInt}
		for _, first := range numbers {
			for _, many := range numbers {
				r := filled(places, first, many)
				if !isRight(r) {
					out = append(out, r, roomy(r, 8))
				}
			}
		}
	}
	return append(out, ring.Ring{Buf: []int{}}, ring.Ring{Buf: []int{}, Many: 1}, ring.Ring{})
}

// values returns messages at which something might go wrong.
func values() []int { return []int{0, 1, -1, 7, 101, math.MaxInt, math.MinInt} }

// P3.1
func TestRight(t *testing.T) {
	rows := []struct {
		places, first, many int
		want                bool
	}{
		{0, 0, 0, false},
		{0, 0, 1, false},
		{0, -1, 0, false},
		{1, 0, 0, true},
		{1, 0, 1, true},
		{1, 0, 2, false},
		{1, 0, -1, false},
		{1, 1, 0, false},
		{1, -1, 0, false},
		{4, 0, 4, true},
		{4, 3, 4, true},
		{4, 3, 0, true},
		{4, 4, 0, false},
		{4, 0, 5, false},
		{4, -1, 5, false},
		{4, math.MaxInt, 1, false},
		{4, math.MinInt, 1, false},
		{4, 1, math.MaxInt, false},
		{4, 1, math.MinInt, false},
		{4, math.MaxInt, math.MaxInt, false},
		{4, math.MinInt, math.MinInt, false},
		{4, math.MaxInt, math.MinInt, false},
		{4, math.MinInt, math.MaxInt, false},
		{9, 8, 9, true},
	}
	for _, r := range rows {
		if got := ring.Right(filled(r.places, r.first, r.many)); got != r.want {
			t.Errorf("%d places, First %d, Many %d: %v", r.places, r.first, r.many, got)
		}
	}
	for _, r := range rightRings() {
		if !ring.Right(r) {
			t.Errorf("Right(%+v): false", r)
		}
	}
	for _, r := range wrongRings() {
		if ring.Right(r) {
			t.Errorf("Right(%+v): true", r)
		}
	}
}

// P3.1: the spare capacity of a buffer is not places.
func TestSpareCapacityIsNoPlaces(t *testing.T) {
	for _, r := range []ring.Ring{{Buf: make([]int, 0, 4)}, {Buf: make([]int, 1, 4), First: 1}, {Buf: make([]int, 1, 4), Many: 2}} {
		if ring.Right(r) {
			t.Errorf("Right(%+v): true", r)
		}
	}
}

// P3.1
func TestNew(t *testing.T) {
	for n := 1; n <= api.MaxQueue; n++ {
		r, err := ring.New(n)
		if err != api.OK || !same(r, ring.Ring{Buf: make([]int, n)}) || !ring.Right(r) || len(ring.List(r)) != 0 {
			t.Errorf("New(%d): %+v, %d", n, r, err)
		}
	}
	for _, n := range []int{0, -1, -2, -api.MaxQueue, api.MaxQueue + 1, api.MaxQueue + 2, 1 << 40, math.MaxInt, math.MinInt} {
		if r, err := ring.New(n); err != api.ErrArg || r.Buf != nil || r.First != 0 || r.Many != 0 {
			t.Errorf("New(%d): %+v, %d", n, r, err)
		}
	}
}

// P3.1
func TestList(t *testing.T) {
	rows := []struct {
		r    ring.Ring
		want []int
	}{
		{filled(1, 0, 0), nil},
		{filled(1, 0, 1), []int{101}},
		{filled(4, 0, 4), []int{101, 102, 103, 104}},
		{filled(4, 1, 2), []int{102, 103}},
		{filled(4, 3, 1), []int{104}},
		{filled(4, 3, 2), []int{104, 101}},
		{filled(4, 2, 4), []int{103, 104, 101, 102}},
		{filled(4, 3, 0), nil},
	}
	for _, r := range rows {
		if got := ring.List(r.r); !slices.Equal(got, r.want) {
			t.Errorf("List(%+v): %v", r.r, got)
		}
	}
	for _, r := range rightRings() {
		if got := ring.List(r); !slices.Equal(got, messages(r)) {
			t.Errorf("List(%+v): %v", r, got)
		}
	}
}

// P3.2
func TestPush(t *testing.T) {
	for _, r := range rightRings() {
		for _, v := range values() {
			got, err := ring.Push(r, v)
			if r.Many == len(r.Buf) {
				if err != api.ErrFull || !same(got, r) {
					t.Errorf("Push(%+v, %d): %+v, %d", r, v, got, err)
				}
				continue
			}
			want := copyOf(r)
			want.Buf[(r.First+r.Many)%len(r.Buf)] = v
			want.Many++
			if err != api.OK || !same(got, want) {
				t.Errorf("Push(%+v, %d): %+v, %d", r, v, got, err)
			}
			if l := ring.List(got); !slices.Equal(l, append(messages(r), v)) {
				t.Errorf("Push(%+v, %d): messages %v", r, v, l)
			}
		}
	}
}

// P3.2: also that the place of a popped message keeps its value.
func TestPop(t *testing.T) {
	for _, r := range rightRings() {
		v, got, err := ring.Pop(r)
		if r.Many == 0 {
			if v != 0 || err != api.ErrNone || !same(got, r) {
				t.Errorf("Pop(%+v): %d, %+v, %d", r, v, got, err)
			}
			continue
		}
		want := ring.Ring{Buf: r.Buf, First: (r.First + 1) % len(r.Buf), Many: r.Many - 1}
		if v != r.Buf[r.First] || err != api.OK || !same(got, want) {
			t.Errorf("Pop(%+v): %d, %+v, %d", r, v, got, err)
		}
		if l := ring.List(got); !slices.Equal(l, messages(r)[1:]) {
			t.Errorf("Pop(%+v): messages %v", r, l)
		}
	}
}

// P3.2: a popped message stays in its place until a message comes there.
func TestPlaceOfAPoppedMessage(t *testing.T) {
	r := ring.Ring{Buf: []int{5, 6, 0}, Many: 2}
	_, r, _ = ring.Pop(r)
	_, r, _ = ring.Pop(r)
	r, _ = ring.Push(r, 7)
	if want := (ring.Ring{Buf: []int{5, 6, 7}, First: 2, Many: 1}); !same(r, want) {
		t.Errorf("%+v, want %+v", r, want)
	}
	r, _ = ring.Push(r, 8)
	if want := (ring.Ring{Buf: []int{8, 6, 7}, First: 2, Many: 2}); !same(r, want) {
		t.Errorf("%+v, want %+v", r, want)
	}
}

// P3.2: Put is Push, or Pop and Push.
func TestPut(t *testing.T) {
	for _, r := range rightRings() {
		for _, v := range values() {
			want := copyOf(r)
			want.Buf[(r.First+r.Many)%len(r.Buf)] = v
			left := messages(r)
			if r.Many == len(r.Buf) {
				want.First = (r.First + 1) % len(r.Buf)
				left = left[1:]
			} else {
				want.Many++
			}
			got := ring.Put(r, v)
			if !same(got, want) {
				t.Errorf("Put(%+v, %d): %+v", r, v, got)
			}
			if l := ring.List(got); !slices.Equal(l, append(left, v)) {
				t.Errorf("Put(%+v, %d): messages %v", r, v, l)
			}
		}
	}
}

// The first sentence of the promises: ErrArg, or nothing, and the ring itself, ahead of every other error.
func TestRingsThatAreNotValid(t *testing.T) {
	for _, r := range wrongRings() {
		before := copyOf(r)
		for _, v := range values() {
			if got, err := ring.Push(r, v); err != api.ErrArg || !same(got, before) {
				t.Errorf("Push(%+v, %d): %+v, %d", r, v, got, err)
			}
			if got := ring.Put(r, v); !same(got, before) {
				t.Errorf("Put(%+v, %d): %+v", r, v, got)
			}
		}
		if v, got, err := ring.Pop(r); v != 0 || err != api.ErrArg || !same(got, before) {
			t.Errorf("Pop(%+v): %d, %+v, %d", r, v, got, err)
		}
		if l := ring.List(r); len(l) != 0 {
			t.Errorf("List(%+v): %v", r, l)
		}
	}
}

// The example of the chapter.
func TestExample(t *testing.T) {
	r, _ := ring.New(2)
	r, _ = ring.Push(r, 5)
	r, _ = ring.Push(r, 6)
	if got, err := ring.Push(r, 9); err != api.ErrFull || !same(got, r) {
		t.Errorf("Push: %+v, %d", got, err)
	}
	v, r, err := ring.Pop(r)
	if v != 5 || err != api.OK {
		t.Errorf("Pop: %d, %d", v, err)
	}
	r = ring.Put(ring.Put(r, 7), 8)
	if l := ring.List(r); !slices.Equal(l, []int{7, 8}) {
		t.Errorf("List: %v", l)
	}
}

// The calls that a queue is played with.
const (
	push = iota
	pop
	put
	kinds
)

// pair is a ring, beside the messages that it must have and its places.
type pair struct {
	r      ring.Ring
	queue  []int
	places int
}

// step makes a call, and the same on the queue; it reports a difference.
func (p *pair) step(t *testing.T, kind, v int) {
	t.Helper()
	full := len(p.queue) == p.places
	before := p.r
	var err, want api.Errno
	switch kind {
	case push:
		p.r, err = ring.Push(p.r, v)
		if full {
			want = api.ErrFull
		} else {
			p.queue = append(p.queue, v)
		}
	case pop:
		var got, first int
		got, p.r, err = ring.Pop(p.r)
		if len(p.queue) == 0 {
			want = api.ErrNone
		} else {
			first, p.queue = p.queue[0], p.queue[1:]
		}
		if got != first {
			t.Fatalf("Pop(%+v): %d, want %d", before, got, first)
		}
	case put:
		p.r = ring.Put(p.r, v)
		if full {
			p.queue = p.queue[1:]
		}
		p.queue = append(p.queue, v)
	}
	if err != want || !ring.Right(p.r) || len(p.r.Buf) != p.places || !slices.Equal(ring.List(p.r), p.queue) {
		t.Fatalf("call %d of %+v: %+v, %d, want the messages %v, %d", kind, before, p.r, err, p.queue, want)
	}
}

func newPair(t *testing.T, places int) *pair {
	t.Helper()
	r, err := ring.New(places)
	if err != api.OK {
		t.Fatalf("New(%d): %d", places, err)
	}
	return &pair{r: r, places: places}
}

// P3.3: all rows of up to eight calls, on rings of all numbers of places.
func TestAllShortRowsOfCalls(t *testing.T) {
	const length = 8
	rows := 1
	for range length {
		rows *= kinds
	}
	for places := 1; places <= api.MaxQueue; places++ {
		for row := range rows {
			p := newPair(t, places)
			for i, left := 0, row; i < length; i, left = i+1, left/kinds {
				p.step(t, left%kinds, 10+i)
			}
		}
	}
}

// P3.3: long rows of calls, which go round many times.
func TestLongRowsOfCalls(t *testing.T) {
	source := rand.New(rand.NewSource(3))
	for places := 1; places <= api.MaxQueue; places++ {
		p := newPair(t, places)
		for i := range 5000 {
			p.step(t, source.Intn(kinds), i)
		}
	}
}

// P3.3: without Put, what is popped is all that was pushed, in the same order.
func TestNoneIsLost(t *testing.T) {
	source := rand.New(rand.NewSource(33))
	for places := 1; places <= api.MaxQueue; places++ {
		r, _ := ring.New(places)
		var pushed, popped []int
		for i := range 2000 {
			if source.Intn(2) == 0 {
				next, err := ring.Push(r, i)
				if err == api.OK {
					pushed = append(pushed, i)
				}
				r = next
			} else {
				v, next, err := ring.Pop(r)
				if err == api.OK {
					popped = append(popped, v)
				}
				r = next
			}
		}
		if popped = append(popped, ring.List(r)...); !slices.Equal(pushed, popped) {
			t.Errorf("%d places: pushed and popped differ", places)
		}
	}
}

type call struct {
	name string
	do   func(r ring.Ring) ring.Ring
}

// calls returns all the calls that take a ring, each with what it returns as a ring.
func calls() []call {
	return []call{
		{"Right", func(r ring.Ring) ring.Ring { ring.Right(r); return ring.Ring{} }},
		{"Push", func(r ring.Ring) ring.Ring { next, _ := ring.Push(r, 7); return next }},
		{"Pop", func(r ring.Ring) ring.Ring { _, next, _ := ring.Pop(r); return next }},
		{"List", func(r ring.Ring) ring.Ring { return ring.Ring{Buf: ring.List(r)} }},
		{"Put", func(r ring.Ring) ring.Ring { return ring.Put(r, 7) }},
	}
}

// whole returns the buffer with all that lies behind it.
func whole(l []int) []int { return l[:cap(l)] }

// spill writes over all the memory that l reaches.
func spill(l []int) {
	for i := range whole(l) {
		whole(l)[i] = -77
	}
}

// R3: no call changes its ring, or what lies behind the buffer.
func TestArgumentsAreNotChanged(t *testing.T) {
	for _, c := range calls() {
		for _, r := range append(rightRings(), wrongRings()...) {
			for spare := range 3 {
				given := roomy(r, spare)
				before := append([]int{}, whole(given.Buf)...)
				c.do(given)
				if !slices.Equal(whole(given.Buf), before) {
					t.Errorf("%s(%+v) changed its argument: %v, before %v", c.name, r, whole(given.Buf), before)
				}
			}
		}
	}
}

// apart reports a fault if given and got reach the same memory.
func apart(t *testing.T, name string, given, got []int) {
	t.Helper()
	before := append([]int{}, whole(given)...)
	spill(got)
	if !slices.Equal(whole(given), before) {
		t.Errorf("%s: the result shares memory with the argument %v", name, before)
	}
}

// R3: a list is new memory, and so is a buffer in which a place has changed; what has not changed may be shared.
func TestResultsAreNewMemory(t *testing.T) {
	for _, r := range rightRings() {
		given := roomy(r, 2)
		apart(t, "List", given.Buf, ring.List(given))
		apart(t, "Put", given.Buf, ring.Put(given, 7).Buf)
		if next, err := ring.Push(given, 7); err == api.OK {
			apart(t, "Push", given.Buf, next.Buf)
		}
	}
	one, _ := ring.New(3)
	two, _ := ring.New(3)
	apart(t, "New", one.Buf, two.Buf)
}

// R3: every ring that a row of calls has gone through stays as it was, also where two rows part.
func TestOldRingsStay(t *testing.T) {
	source := rand.New(rand.NewSource(4))
	first, _ := ring.New(3)
	rings := []ring.Ring{first}
	kept := []ring.Ring{copyOf(first)}
	for i := range 3000 {
		from := rings[source.Intn(len(rings))]
		var next ring.Ring
		switch source.Intn(kinds) {
		case push:
			next, _ = ring.Push(from, i)
		case pop:
			_, next, _ = ring.Pop(from)
		case put:
			next = ring.Put(from, i)
		}
		rings, kept = append(rings, next), append(kept, copyOf(next))
	}
	for i := range rings {
		if !same(rings[i], kept[i]) {
			t.Fatalf("ring %d was %+v, is %+v", i, kept[i], rings[i])
		}
	}
}

// R3: a nil buffer and an empty one are the same.
func TestNilAndEmpty(t *testing.T) {
	for _, c := range calls() {
		for _, many := range []int{0, 1, -1} {
			a, b := c.do(ring.Ring{Many: many}), c.do(ring.Ring{Buf: []int{}, Many: many})
			if !same(a, b) {
				t.Errorf("%s: %+v for nil, %+v for an empty buffer", c.name, a, b)
			}
		}
	}
}

// R4: the results hang on the ring alone, not on earlier calls and not on a capacity.
func TestDeterminism(t *testing.T) {
	for _, c := range calls() {
		for _, r := range append(rightRings(), wrongRings()...) {
			a, b, other := c.do(r), c.do(r), c.do(roomy(r, 5))
			if !same(a, b) || !same(a, other) {
				t.Errorf("%s(%+v): %+v, then %+v and %+v", c.name, r, a, b, other)
			}
		}
	}
}
