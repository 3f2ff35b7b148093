package heap_test

import (
	"math"
	"math/rand"
	"slices"
	"sort"
	"testing"

	"remontoir/api"
	"remontoir/heap"
)

type items = []heap.Item

// isLower is the document's word, told once more in the plainest form.
func isLower(a, b heap.Item) bool {
	if a.Key != b.Key {
		return a.Key < b.Key
	}
	return a.Id < b.Id
}

// isHeap is the document's word.
func isHeap(h items) bool {
	for i := range h {
		if i > 0 && isLower(h[i], h[(i-1)/2]) {
			return false
		}
	}
	return true
}

// rising returns l in increasing order, by the library.
func rising(l items) items {
	out := append(items{}, l...)
	sort.Slice(out, func(i, j int) bool { return isLower(out[i], out[j]) })
	return out
}

func sameItems(a, b items) bool { return slices.Equal(rising(a), rising(b)) }

// with returns l and x in memory of their own.
func with(l items, x heap.Item) items { return append(append(items{}, l...), x) }

// all returns all lists of the length n, of the items given.
func all(n int, of items) []items {
	lists := []items{nil}
	for range n {
		var longer []items
		for _, l := range lists {
			for _, x := range of {
				longer = append(longer, with(l, x))
			}
		}
		lists = longer
	}
	return lists
}

func keys(ks ...int) items {
	var l items
	for i, k := range ks {
		l = append(l, heap.Item{Key: k, Id: i})
	}
	return l
}

// edges returns the lists that the document names, and some beside them.
func edges() []items {
	ends := items{
		{Key: math.MaxInt, Id: math.MinInt}, {Key: math.MinInt, Id: math.MaxInt}, {Key: 0, Id: math.MaxInt},
		{Key: math.MinInt, Id: math.MinInt}, {Key: 0, Id: math.MinInt}, {Key: math.MaxInt, Id: math.MaxInt},
	}
	return []items{
		nil, {}, {{}}, {{Key: 7, Id: 7}}, {{Key: -1, Id: 3}},
		{{}, {}}, {{Key: 2, Id: 1}, {Key: 2, Id: 1}, {Key: 2, Id: 1}, {Key: 2, Id: 1}},
		{{Key: 4, Id: 3}, {Key: 4, Id: 2}, {Key: 4, Id: 1}, {Key: 4, Id: 0}},
		{{Key: 4, Id: 0}, {Key: 4, Id: 1}, {Key: 4, Id: 2}, {Key: 4, Id: 3}},
		{{Key: 1, Id: 9}, {Key: 2, Id: 0}}, {{Key: 2, Id: 0}, {Key: 1, Id: 9}},
		keys(9, 8, 7, 6, 5, 4, 3, 2, 1, 0), keys(0, 1, 2, 3, 4, 5, 6, 7, 8, 9), keys(5, 3, 4, 3, 9, 1),
		keys(1, 3, 2, 4, 5, 0), keys(1, 2, 3, 4, 5, 2), keys(0, -1), keys(-1, 0), ends,
	}
}

// lists returns the edges, all short lists of four items, and longer lists of few and of many keys.
func lists() []items {
	out := edges()
	few := items{{Key: 0, Id: 0}, {Key: 0, Id: 1}, {Key: 1, Id: 0}, {Key: 2, Id: -1}}
	for n := range 6 {
		out = append(out, all(n, few)...)
	}
	r := rand.New(rand.NewSource(2))
	for n := range 200 {
		var l items
		for range n {
			l = append(l, heap.Item{Key: r.Intn(1 + n/3), Id: r.Intn(4) - 2})
		}
		out = append(out, l)
	}
	return out
}

// P2.1
func TestRight(t *testing.T) {
	rows := []struct {
		h    items
		want bool
	}{
		{nil, true},
		{items{}, true},
		{keys(5), true},
		{keys(1, 2), true},
		{keys(2, 1), false},
		{keys(1, 1), true},
		{items{{Key: 1, Id: 1}, {Key: 1, Id: 1}}, true},
		{items{{Key: 1, Id: 1}, {Key: 1, Id: 0}}, false},
		{items{{Key: 1, Id: 0}, {Key: 1, Id: 1}}, true},
		{items{{Key: 1, Id: 5}, {Key: 2, Id: 0}}, true},
		{keys(1, 2, 0), false},
		{keys(1, 5, 2, 6, 7, 3), true},
		{keys(1, 5, 2, 4, 7, 3), false},
		{keys(1, 5, 2, 6, 4, 3), false},
		{keys(1, 5, 4, 6, 7, 3), false},
		{keys(1, 5, 4, 6, 7, 8, 3), false},
		{items{{Key: math.MinInt}, {Key: math.MaxInt}}, true},
		{items{{Key: math.MaxInt}, {Key: math.MinInt}}, false},
		{items{{Id: math.MinInt}, {Id: math.MaxInt}}, true},
		{items{{Id: math.MaxInt}, {Id: math.MinInt}}, false},
	}
	for _, r := range rows {
		if got := heap.Right(r.h); got != r.want {
			t.Errorf("Right(%v): %v", r.h, got)
		}
	}
	for _, l := range lists() {
		if got := heap.Right(l); got != isHeap(l) {
			t.Errorf("Right(%v): %v", l, got)
		}
	}
}

// P2.1
func TestMake(t *testing.T) {
	for _, l := range lists() {
		if h := heap.Make(l); !isHeap(h) || !sameItems(h, l) {
			t.Errorf("Make(%v): %v", l, h)
		}
	}
}

// P2.1: also where h is not a heap, which most of the lists are not.
func TestPush(t *testing.T) {
	pushed := items{{}, {Key: 1}, {Key: 9, Id: 9}, {Key: -9, Id: 9}, {Key: 4, Id: 2}, {Key: math.MinInt, Id: math.MinInt}, {Key: math.MaxInt, Id: math.MaxInt}}
	for _, l := range lists() {
		for _, x := range pushed {
			if h := heap.Push(l, x); !isHeap(h) || !sameItems(h, with(l, x)) {
				t.Errorf("Push(%v, %v): %v", l, x, h)
			}
		}
	}
}

// P2.1: the lowest one, also where it does not lie in front.
func TestMin(t *testing.T) {
	for _, l := range lists() {
		x, err := heap.Min(l)
		if len(l) == 0 {
			if x != (heap.Item{}) || err != api.ErrNone {
				t.Errorf("Min of none: %v, %d", x, err)
			}
			continue
		}
		if x != rising(l)[0] || err != api.OK {
			t.Errorf("Min(%v): %v, %d", l, x, err)
		}
	}
}

// P2.1: the lowest one and a heap of the others, also where h is not a heap.
func TestPop(t *testing.T) {
	for _, l := range lists() {
		x, rest, err := heap.Pop(l)
		if len(l) == 0 {
			if x != (heap.Item{}) || len(rest) != 0 || err != api.ErrNone {
				t.Errorf("Pop of none: %v, %v, %d", x, rest, err)
			}
			continue
		}
		if x != rising(l)[0] || err != api.OK || !isHeap(rest) || !slices.Equal(rising(rest), rising(l)[1:]) {
			t.Errorf("Pop(%v): %v, %v, %d", l, x, rest, err)
		}
	}
}

// R2: there is nothing to see beside the error, whatever lies in the spare capacity of the list.
func TestNoneBesideSpareItems(t *testing.T) {
	l := items{{Key: 3, Id: 3}, {Key: 4, Id: 4}}[:0]
	if x, err := heap.Min(l); x != (heap.Item{}) || err != api.ErrNone {
		t.Errorf("Min: %v, %d", x, err)
	}
	if x, rest, err := heap.Pop(l); x != (heap.Item{}) || len(rest) != 0 || err != api.ErrNone {
		t.Errorf("Pop: %v, %v, %d", x, rest, err)
	}
}

// P2.2
func TestSort(t *testing.T) {
	got := heap.Sort(items{{Key: 2, Id: 2}, {Key: -5, Id: 8}, {Key: 2, Id: 1}, {Key: 1, Id: 9}, {Key: 2, Id: 1}})
	want := items{{Key: -5, Id: 8}, {Key: 1, Id: 9}, {Key: 2, Id: 1}, {Key: 2, Id: 1}, {Key: 2, Id: 2}}
	if !slices.Equal(got, want) {
		t.Errorf("Sort: %v", got)
	}
	for _, l := range lists() {
		if got := heap.Sort(l); !slices.Equal(got, rising(l)) {
			t.Errorf("Sort(%v): %v", l, got)
		}
	}
}

// popAll returns the items in the order in which they are popped from h.
func popAll(t *testing.T, h items) items {
	t.Helper()
	var out items
	for range len(h) + 1 {
		x, rest, err := heap.Pop(h)
		if err == api.ErrNone {
			return out
		}
		out, h = append(out, x), rest
	}
	t.Errorf("Pop: items without an end: %v", out)
	return out
}

// P2.3
func TestPoppedInOrder(t *testing.T) {
	for _, l := range lists() {
		var h items
		for _, x := range l {
			h = heap.Push(h, x)
		}
		if got := popAll(t, h); !slices.Equal(got, rising(l)) {
			t.Errorf("%v pushed, popped: %v", l, got)
		}
		if got := popAll(t, l); !slices.Equal(got, rising(l)) {
			t.Errorf("popped from the list %v: %v", l, got)
		}
	}
}

// P2.3: pushes and pops in turns, beside a list that is held in order.
func TestPushesAndPopsInTurns(t *testing.T) {
	r := rand.New(rand.NewSource(3))
	var h, want items
	for step := range 20000 {
		if r.Intn(100) < 52 {
			x := heap.Item{Key: r.Intn(20), Id: r.Intn(5)}
			h, want = heap.Push(h, x), rising(append(want, x))
		} else {
			x, rest, err := heap.Pop(h)
			if len(want) == 0 {
				if err != api.ErrNone {
					t.Fatalf("step %d: %v popped from none", step, x)
				}
				continue
			}
			if x != want[0] || err != api.OK {
				t.Fatalf("step %d: %v popped, want %v", step, x, want[0])
			}
			h, want = rest, want[1:]
		}
		if m, err := heap.Min(h); !heap.Right(h) || len(h) != len(want) || len(want) > 0 && (m != want[0] || err != api.OK) {
			t.Fatalf("step %d: %v, want %v", step, h, want)
		}
	}
}

type call struct {
	name string
	do   func(l items) items
}

// calls returns all the calls, each with its items as one list.
func calls() []call {
	x := heap.Item{Key: 1, Id: 1}
	return []call{
		{"Right", func(l items) items { heap.Right(l); return nil }},
		{"Make", heap.Make},
		{"Push", func(l items) items { return heap.Push(l, x) }},
		{"Min", func(l items) items { heap.Min(l); return nil }},
		{"Pop", func(l items) items { _, rest, _ := heap.Pop(l); return rest }},
		{"Sort", heap.Sort},
	}
}

// spill writes over all the memory that l reaches.
func spill(l items) {
	for i := range l[:cap(l)] {
		l[:cap(l)][i] = heap.Item{Key: -77, Id: -77}
	}
}

// R3: no call changes its list or what lies behind it, and no result shares memory with it.
func TestMemory(t *testing.T) {
	for _, c := range calls() {
		for _, l := range edges() {
			for spare := range 4 {
				whole := append(append(make(items, 0, len(l)+spare), l...), keys(50, 51, 52, 53)[:spare]...)
				before := append(items{}, whole...)
				given := whole[:len(l)]
				got := c.do(given)
				if !slices.Equal(whole, before) {
					t.Errorf("%s(%v) changed its argument: %v", c.name, l, whole)
				}
				kept := append(items{}, got...)
				spill(whole)
				if !slices.Equal(got, kept) {
					t.Errorf("%s(%v) keeps its argument", c.name, l)
				}
				copy(whole, before)
				spill(got)
				if !slices.Equal(whole, before) {
					t.Errorf("%s(%v): the result shares memory with the argument", c.name, l)
				}
			}
		}
	}
}

// R3: two results of one list share nothing with each other.
func TestResultsAreApart(t *testing.T) {
	h := heap.Make(keys(5, 3, 4, 3, 9, 1))
	for _, c := range calls() {
		one := c.do(h)
		two := c.do(h)
		kept := append(items{}, two...)
		spill(one)
		if !slices.Equal(two, kept) {
			t.Errorf("%s: two results share memory", c.name)
		}
	}
}

// R3: a nil list and an empty one are the same.
func TestNilAndEmpty(t *testing.T) {
	if !heap.Right(nil) || !heap.Right(items{}) {
		t.Error("Right of none")
	}
	for _, c := range calls() {
		if a, b := c.do(nil), c.do(items{}); !slices.Equal(a, b) {
			t.Errorf("%s: %v for nil, %v for an empty list", c.name, a, b)
		}
	}
}

// R4: the results hang on the items alone, not on earlier calls and not on a capacity.
func TestDeterminism(t *testing.T) {
	for _, c := range calls() {
		for _, l := range lists() {
			roomy := append(make(items, 0, 2*len(l)+3), l...)
			if a, b := c.do(l), c.do(roomy); !slices.Equal(a, b) {
				t.Errorf("%s(%v): %v, then %v", c.name, l, a, b)
			}
		}
	}
}
