package image_test

import (
	"bytes"
	"math/rand"
	"slices"
	"testing"

	"remontoir/api"
	"remontoir/image"
)

// behind returns a list in new memory, in which some lies behind it, too.
func behind[E any](l []E, more ...E) []E {
	memory := make([]E, 0, len(l)+len(more))
	return append(append(memory, l...), more...)[:len(l)]
}

// whole returns all the memory of a list, also what lies behind it.
func whole[E any](l []E) []E {
	return l[:cap(l)]
}

// overwrite writes another element to all the memory of a list.
func overwrite[E any](l []E, other E) {
	for i := range whole(l) {
		whole(l)[i] = other
	}
}

// copiedBehind returns a system in new memory, with some behind each of its lists.
func copiedBehind(c config) config {
	out := config{Parts: behind(c.Parts, api.Part{Face: api.Face{P: 7, B: 7}}, api.Part{}), Ports: behind(c.Ports, api.Port{Cap: 7}, api.Port{From: 7})}
	for i := range out.Parts {
		p := &out.Parts[i]
		p.Tasks = behind(p.Tasks, api.Task{C: 7, D: 7, T: 7}, api.Task{C: -7})
		for j := range p.Tasks {
			p.Tasks[j].Secs = behind(p.Tasks[j].Secs, api.Sec{Res: -7}, api.Sec{Len: -7})
		}
	}
	return out
}

// wholeOf returns a system with all that lies behind its lists.
func wholeOf(c config) config {
	out := config{Parts: slices.Clone(whole(c.Parts)), Ports: whole(c.Ports)}
	for i := range out.Parts {
		p := &out.Parts[i]
		p.Tasks = slices.Clone(whole(p.Tasks))
		for j := range p.Tasks {
			p.Tasks[j].Secs = whole(p.Tasks[j].Secs)
		}
	}
	return out
}

// A memory is one list of a system, which can be overwritten; and the numbers that are in it, not those of lists within it.
type memory struct {
	spoil   func()
	numbers func() []int
}

// memories returns the lists of a system, one by one, as they are now.
func memories(c config) []memory {
	out := []memory{
		{func() { overwrite(c.Ports, api.Port{From: -9}) }, func() []int { return flat(config{Ports: c.Ports}) }},
		{func() { overwrite(c.Parts, api.Part{Face: api.Face{P: -9}}) }, func() (l []int) {
			for _, p := range c.Parts {
				l = append(l, p.Face.P, p.Face.B)
			}
			return l
		}},
	}
	for _, p := range c.Parts {
		out = append(out, memory{func() { overwrite(p.Tasks, api.Task{C: -9}) }, func() (l []int) {
			for _, t := range p.Tasks {
				l = append(l, t.C, t.D, t.T)
			}
			return l
		}})
		for _, t := range p.Tasks {
			out = append(out, memory{func() { overwrite(t.Secs, api.Sec{Res: -9}) }, func() []int { return flat(one(api.Task{Secs: t.Secs})) }})
		}
	}
	return out
}

// spoil overwrites all the memory of a system.
func spoil(c config) {
	for _, m := range memories(c) {
		m.spoil()
	}
}

// all returns systems, valid and not.
func all() []config {
	out := append(systems(), wrongs()...)
	for _, c := range systems() {
		out = append(out, variants(c)...)
	}
	return out
}

// images returns bytes for which Decode returns a system, or any of its errors.
func images() [][]byte {
	out := [][]byte{nil, []byte("T"), []byte("TX1"), []byte("TK1\xff"), with(encoded(some()), 1, 2, 3)}
	for n, c := range append(systems(), wrongs()...) {
		b := encoded(c)
		out = append(out, b, b[:len(b)*(n%5)/5], with(b, byte(n)))
	}
	return out
}

// A result is what the calls with a system return.
type result struct {
	right bool
	b     []byte
	err   api.Errno
}

// do calls the program.
func do(c config) (r result) {
	r.right = image.Right(c)
	r.b, r.err = image.Encode(c)
	return r
}

// equal reports whether two results are the same.
func (r result) equal(s result) bool {
	return r.right == s.right && bytes.Equal(r.b, s.b) && r.err == s.err
}

// R3: no call changes its arguments, nor what lies behind them, nor looks there.
func TestArgumentsDoNotChange(t *testing.T) {
	for _, c := range all() {
		g, h := copiedBehind(c), copiedBehind(c)
		before := copied(wholeOf(g))
		if got, want := do(g), do(copied(c)); !got.equal(want) {
			t.Fatalf("%+v, with something behind: %+v, want %+v", c, got, want)
		}
		check(t, g)
		checkSame(t, g, c)
		checkSame(t, g, some())
		if !image.Same(g, h) || !slices.Equal(flat(wholeOf(g)), flat(before)) || !slices.Equal(flat(wholeOf(h)), flat(before)) {
			t.Fatalf("a call changed its arguments: %+v to %+v", before, wholeOf(g))
		}
	}
	for _, b := range images() {
		for _, more := range [][]byte{{0}, encoded(some()), []byte("TK1\x00\x00"), bytes.Repeat([]byte{0xff}, 9)} {
			g := behind(b, more...)
			checkDecode(t, g)
			if !bytes.Equal(whole(g), with(b, more...)) {
				t.Fatalf("Decode changed its bytes: %x to %x", with(b, more...), whole(g))
			}
		}
	}
}

// R3: the bytes are new memory, spare capacity included.
func TestBytesAreNewMemory(t *testing.T) {
	for _, c := range all() {
		g, want := copiedBehind(c), do(copied(c))
		want.b = bytes.Clone(want.b)
		first, second := do(g), do(g)
		overwrite(first.b, 0xee)
		if !second.equal(want) || !slices.Equal(flat(wholeOf(g)), flat(wholeOf(copiedBehind(c)))) {
			t.Fatalf("a change of the bytes of %+v is seen elsewhere", c)
		}
		if third := do(g); !third.equal(want) {
			t.Fatalf("a change of the bytes of %+v changed the next ones", c)
		}
		spoil(g)
		if !second.equal(want) {
			t.Fatalf("a change of %+v is seen in its bytes", c)
		}
	}
}

// R3: systems are new memory, spare capacity included.
func TestSystemsAreNewMemory(t *testing.T) {
	for _, b := range images() {
		g, want := behind(b, 1, 2, 3), modelDecode(b)
		first, second := decode(g), decode(g)
		spoil(first.c)
		if !second.equal(want) || !bytes.Equal(whole(g), with(b, 1, 2, 3)) {
			t.Fatalf("a change of the system of %x is seen elsewhere", b)
		}
		if third := decode(g); !third.equal(want) {
			t.Fatalf("a change of the system of %x changed the next one", b)
		}
		overwrite(g, 0xee)
		if !second.equal(want) {
			t.Fatalf("a change of the bytes %x is seen in their system", b)
		}
	}
}

// R3: no two lists of one system share their memory, spare capacity included.
func TestListsOfASystemAreApart(t *testing.T) {
	r := rand.New(rand.NewSource(31))
	for _, c := range append(systems(), anySystem(r), anySystem(r), anySystem(r), one(slices.Repeat(tasks{{C: 9, D: 9, T: 9, Secs: nested()[:2]}}, 3)...)) {
		b := encoded(c)
		want := memories(c)
		for k := range want {
			got := memories(decode(b).c)
			if len(got) != len(want) {
				t.Fatalf("Decode of %x: %d lists", b, len(got))
			}
			got[k].spoil()
			for i, m := range got {
				if i != k && !slices.Equal(m.numbers(), want[i].numbers()) {
					t.Fatalf("of the system of %x list %d shares its memory with list %d", b, i, k)
				}
			}
		}
	}
}

// R3, R4: no call keeps what it is given: after other calls, and after a change in the same memory, the results are those of new memory.
func TestNothingIsKept(t *testing.T) {
	list := images()
	place := make([]byte, 1<<16)
	for n, b := range list {
		want := decode(bytes.Clone(b))
		for _, other := range [][]byte{list[(n+1)%len(list)], list[(n+7)%len(list)], encoded(some())} {
			decode(place[:copy(place, other)])
			if got := decode(place[:copy(place, b)]); !got.equal(want) {
				t.Fatalf("Decode of %x: %+v, and before %+v", b, got, want)
			}
		}
	}
	c := full()
	everywhere := places(c)
	first := do(copied(c))
	first.b = bytes.Clone(first.b)
	for k, x := range everywhere {
		if k%3 > 0 {
			continue
		}
		old := *x
		for _, *x = range []int{-1, 201, old} {
			if got, want := do(c), do(copied(c)); !got.equal(want) || got.equal(first) != (*x == old) {
				t.Fatalf("%+v: %+v, and of a copy %+v", c, got, want)
			}
		}
	}
}

// emptied returns a system whose lists without items are nil, or empty, or empty with something behind.
func emptied(c config, kind int) config {
	out := copied(c)
	out.Parts, out.Ports = empty(out.Parts, kind), empty(out.Ports, kind)
	for i := range out.Parts {
		p := &out.Parts[i]
		p.Tasks = empty(p.Tasks, kind)
		for j := range p.Tasks {
			p.Tasks[j].Secs = empty(p.Tasks[j].Secs, kind)
		}
	}
	return out
}

// empty returns the list; one without items is nil, or empty, or empty with something behind.
func empty[E any](l []E, kind int) []E {
	switch {
	case len(l) > 0:
		return l
	case kind == 0:
		return nil
	case kind == 1:
		return []E{}
	}
	return make([]E, 5)[:0]
}

// R3, P19.1: a nil list and an empty one are the same, in every place.
func TestNoListAndAnEmptyOne(t *testing.T) {
	for _, c := range all() {
		var l []config
		for kind := range 3 {
			l = append(l, emptied(c, kind))
		}
		for _, a := range l {
			check(t, a)
			if !do(a).equal(do(l[0])) {
				t.Fatalf("%+v: %+v, of nil lists %+v", a, do(a), do(l[0]))
			}
			for _, b := range append(l, c) {
				if !image.Same(a, b) {
					t.Fatalf("Same of %#v and %#v", a, b)
				}
			}
		}
	}
	for _, b := range [][]byte{nil, {}, make([]byte, 0, 9), []byte("TK1\x00\x00")[:0], []byte("TK1\x00\x00")[5:]} {
		told(t, b, 0, api.ErrMore)
	}
}

// R4: the results hang on what is given alone, not on earlier calls.
func TestDeterminism(t *testing.T) {
	for _, c := range all() {
		if a, b := do(c), do(copied(c)); !a.equal(b) || !a.equal(do(c)) {
			t.Fatalf("%+v: %+v, then %+v", c, a, b)
		}
	}
	for _, b := range images() {
		if x, y := decode(b), decode(bytes.Clone(b)); !x.equal(y) || !x.equal(decode(b)) {
			t.Fatalf("%x: %+v, then %+v", b, x, y)
		}
	}
}
