package span_test

import (
	"math"
	"math/rand"
	"slices"
	"testing"

	"remontoir/api"
	"remontoir/span"
)

type spans = []api.Span

const top = api.MaxNum

// of returns the spans of the numbers taken in pairs.
func of(ends ...int) spans {
	var l spans
	for i := 0; i+1 < len(ends); i += 2 {
		l = append(l, api.Span{From: ends[i], To: ends[i+1]})
	}
	return l
}

// isValid is the document's word.
func isValid(s api.Span) bool {
	return s.From >= 0 && s.From < s.To && s.To <= top
}

// isNormal is the document's word.
func isNormal(l spans) bool {
	for i := range l {
		if !isValid(l[i]) || i > 0 && !(l[i].From > l[i-1].To) {
			return false
		}
	}
	return true
}

// has is the document's word, for the valid spans of l.
func has(l spans, t int) bool {
	for _, s := range l {
		if isValid(s) && t >= s.From && t < s.To {
			return true
		}
	}
	return false
}

// model returns the normal spans of the ticks that are in valid spans of l and that keep holds for. It asks only at the ends of the spans and at the points given: between two of them keep must not change.
func model(l spans, keep func(t int) bool, points ...int) spans {
	at := append([]int{}, points...)
	for _, s := range l {
		at = append(at, s.From, s.To)
	}
	slices.Sort(at)
	at = slices.Compact(at)
	var out spans
	open := false
	for _, t := range at {
		inside := has(l, t) && keep(t)
		switch {
		case inside && !open:
			out = append(out, api.Span{From: t})
		case !inside && open:
			out[len(out)-1].To = t
		}
		open = inside
	}
	return out
}

func every(int) bool { return true }

func modelNorm(l spans) spans { return model(l, every) }

func modelCut(l spans, from, to int) spans {
	return model(l, func(t int) bool { return t >= from && t < to }, from, to)
}

func modelWithout(l spans, x api.Span) spans {
	return model(l, func(t int) bool { return !has(spans{x}, t) }, x.From, x.To)
}

// count adds up the lengths of normal spans.
func count(l spans) int {
	n := 0
	for _, s := range l {
		n += s.To - s.From
	}
	return n
}

// wrong returns spans that are not valid.
func wrong() spans {
	return of(-1, 30, -1, 0, -5, -2, 7, 7, 9, 7, 0, 0, 1, 0, 0, -1, 5, top+1, top, top, top, top+1, top+1, top+2,
		math.MinInt, math.MaxInt, math.MaxInt, math.MinInt, math.MinInt, 5, 5, math.MaxInt, 5, math.MinInt, math.MaxInt, 5,
		math.MinInt, math.MinInt, math.MaxInt, math.MaxInt, 0, math.MinInt, 0, math.MaxInt, math.MinInt, top, top, math.MaxInt)
}

// edges returns the lists that the document names, and some beside them.
func edges() []spans {
	return []spans{
		nil, {}, of(0, 1), of(3, 9), of(0, top), of(top-1, top), of(0, top-1),
		of(5, 9, 1, 3, 3, 4, 8, 12), of(5, 9, 1, 3, 3, 4, 8, 12, 7, 7, -1, 30),
		of(1, 3, 3, 5), of(3, 5, 1, 3), of(1, 3, 4, 5), of(4, 5, 1, 3), of(1, 4, 3, 6), of(3, 6, 1, 4),
		of(2, 5, 2, 5, 2, 5), of(2, 5, 2, 9), of(2, 9, 2, 5), of(2, 9, 5, 9), of(5, 9, 2, 9), of(2, 9, 4, 6), of(4, 6, 2, 9),
		of(2, 20, 4, 6, 8, 10, 12, 14), of(2, 20, 4, 6, 15, 25), of(1, 2, 3, 4, 5, 6, 2, 3, 4, 5),
		of(9, 10, 7, 8, 5, 6, 3, 4, 1, 2), of(1, 2, 3, 4, 5, 6, 7, 8), of(0, 100, 10, 20, 100, 101),
		of(0, top, 0, top), of(0, 1, top-1, top), of(top-5, top-3, top-3, top), of(top-1, top, 0, top-1), of(0, 5, top-5, top, 3, top-4),
		wrong(), append(wrong(), of(5, 6, 8, 9)...), append(of(8, 9, 0, top, 5, 6), wrong()...),
	}
}

// lists returns the edges, all short lists of small numbers, also just below MaxNum, and longer lists that lie close and far apart.
func lists() []spans {
	out := edges()
	for _, base := range []int{0, top - 4} {
		var one spans
		for from := base - 1; from <= base+5; from++ {
			for to := base - 1; to <= base+5; to++ {
				one = append(one, api.Span{From: from, To: to})
			}
		}
		for _, a := range one {
			out = append(out, spans{a})
			for _, b := range one {
				out = append(out, spans{a, b})
			}
		}
	}
	r := rand.New(rand.NewSource(4))
	for n := range 200 {
		for _, wide := range []int{8, 40, 400} {
			var l spans
			for range n % 20 {
				from := r.Intn(wide) - 1
				l = append(l, api.Span{From: from, To: from + r.Intn(8) - 1})
			}
			out = append(out, l)
		}
	}
	return out
}

// marks returns ticks, and ends for cuts, at the edges of the spans of l and of the range.
func marks(l spans) []int {
	at := []int{math.MinInt, math.MinInt + 1, -top, -2, -1, 0, 1, 4, 6, top - 3, top - 1, top, top + 1, math.MaxInt - 1, math.MaxInt}
	for i, s := range l {
		if i < 3 && isValid(s) {
			at = append(at, s.From-1, s.From, s.To-1, s.To)
		}
	}
	slices.Sort(at)
	return slices.Compact(at)
}

// P4.1
func TestRight(t *testing.T) {
	rows := []struct {
		l    spans
		want bool
	}{
		{nil, true}, {spans{}, true}, {of(0, 1), true}, {of(0, top), true}, {of(top-1, top), true},
		{of(1, 4, 5, 12), true}, {of(1, 2, 3, 4, 5, 6), true},
		{of(1, 2, 2, 3), false}, {of(1, 3, 2, 5), false}, {of(1, 3, 1, 3), false}, {of(5, 6, 1, 2), false}, {of(1, 9, 3, 4), false},
		{of(1, 2, 4, 5, 5, 6), false}, {of(1, 2, 4, 5, 3, 7), false}, {of(1, 2, 4, 5, 0, 1), false},
		{of(1, 2, 3, 3), false}, {of(1, 2, 4, 3), false}, {of(-1, 2, 3, 4), false}, {of(1, 2, 3, top+1), false},
	}
	for _, r := range rows {
		if got := span.Right(r.l); got != r.want {
			t.Errorf("Right(%v): %v", r.l, got)
		}
	}
	for _, s := range wrong() {
		if span.Right(spans{s}) || span.Right(spans{{From: 0, To: 1}, s}) || span.Right(spans{s, {From: 40, To: 41}}) {
			t.Errorf("Right with %v", s)
		}
	}
	for _, l := range lists() {
		if got := span.Right(l); got != isNormal(l) {
			t.Errorf("Right(%v): %v", l, got)
		}
	}
}

// P4.1
func TestNorm(t *testing.T) {
	rows := []struct{ l, want spans }{
		{nil, nil}, {spans{}, nil}, {wrong(), nil},
		{of(5, 9, 1, 3, 3, 4, 8, 12), of(1, 4, 5, 12)},
		{of(3, 5, 1, 3), of(1, 5)}, {of(4, 5, 1, 3), of(1, 3, 4, 5)}, {of(3, 6, 1, 4), of(1, 6)},
		{of(2, 5, 2, 5, 2, 5), of(2, 5)}, {of(2, 9, 4, 6), of(2, 9)}, {of(4, 6, 2, 9), of(2, 9)},
		{of(2, 20, 4, 6, 15, 25), of(2, 25)}, {of(1, 2, 3, 4, 5, 6, 2, 3, 4, 5), of(1, 6)},
		{of(top-1, top, 0, top-1), of(0, top)}, {of(-1, 30, 5, 6, 9, 7), of(5, 6)}, {of(3, top+1, 3, top), of(3, top)},
	}
	for _, r := range rows {
		if got := span.Norm(r.l); !slices.Equal(got, r.want) {
			t.Errorf("Norm(%v): %v", r.l, got)
		}
	}
	for _, l := range lists() {
		if got := span.Norm(l); !isNormal(got) || !slices.Equal(got, modelNorm(l)) {
			t.Errorf("Norm(%v): %v", l, got)
		}
	}
}

// P4.1: the order in which the spans are told does not matter, nor how often.
func TestNormOfAnyOrder(t *testing.T) {
	r := rand.New(rand.NewSource(5))
	for _, l := range lists() {
		want := span.Norm(l)
		mixed := append(append(spans{}, l...), l...)
		r.Shuffle(len(mixed), func(i, j int) { mixed[i], mixed[j] = mixed[j], mixed[i] })
		if got := span.Norm(mixed); !slices.Equal(got, want) {
			t.Errorf("Norm(%v): %v, want %v", mixed, got, want)
		}
	}
}

// P4.1
func TestIn(t *testing.T) {
	l := of(5, 9, 1, 3, 3, 4, 8, 12, 7, 7, -1, 30)
	for at, want := range map[int]bool{-1: false, 0: false, 1: true, 2: true, 3: true, 4: false, 5: true, 8: true, 9: true, 11: true, 12: false, 20: false} {
		if span.In(l, at) != want {
			t.Errorf("In(%v, %d): %v", l, at, !want)
		}
	}
	for at, want := range map[int]bool{0: true, top - 1: true, top: false, -1: false, math.MinInt: false, math.MaxInt: false} {
		if span.In(of(0, top), at) != want {
			t.Errorf("In(0 to MaxNum, %d): %v", at, !want)
		}
	}
	for _, l := range lists() {
		for _, at := range marks(l) {
			if got := span.In(l, at); got != has(l, at) {
				t.Errorf("In(%v, %d): %v", l, at, got)
			}
		}
	}
}

// P4.1: each tick is counted once.
func TestTotal(t *testing.T) {
	rows := []struct {
		l    spans
		want int
	}{
		{nil, 0}, {spans{}, 0}, {wrong(), 0}, {of(3, 4), 1}, {of(5, 9, 1, 3, 3, 4, 8, 12), 10}, {of(2, 5, 2, 5, 2, 5), 3},
		{of(2, 9, 4, 6), 7}, {of(0, top), top}, {of(0, top, 0, top, 1, top), top}, {of(0, 1, top-1, top), 2}, {of(-1, 30, 5, 6), 1},
	}
	for _, r := range rows {
		if got := span.Total(r.l); got != r.want {
			t.Errorf("Total(%v): %d", r.l, got)
		}
	}
	for _, l := range lists() {
		if got := span.Total(l); got != count(modelNorm(l)) {
			t.Errorf("Total(%v): %d", l, got)
		}
	}
}

// P4.2
func TestCut(t *testing.T) {
	l := of(5, 9, 1, 3, 3, 4, 8, 12)
	rows := []struct {
		l        spans
		from, to int
		want     spans
	}{
		{l, 2, 6, of(2, 4, 5, 6)}, {l, 0, 50, of(1, 4, 5, 12)}, {l, 1, 12, of(1, 4, 5, 12)}, {l, 4, 5, nil}, {l, 3, 5, of(3, 4)},
		{l, 4, 6, of(5, 6)}, {l, 6, 8, of(6, 8)}, {l, 12, 20, nil}, {l, 0, 1, nil}, {l, 11, 12, of(11, 12)}, {l, 6, 6, nil}, {l, 8, 6, nil},
		{l, -5, 2, of(1, 2)}, {l, math.MinInt, math.MaxInt, of(1, 4, 5, 12)}, {l, math.MaxInt, math.MinInt, nil},
		{l, math.MinInt, math.MinInt, nil}, {l, math.MaxInt, math.MaxInt, nil}, {l, math.MinInt, 2, of(1, 2)}, {l, 10, math.MaxInt, of(10, 12)},
		{of(0, top), math.MinInt, math.MaxInt, of(0, top)}, {of(0, top), top - 1, top + 1, of(top-1, top)}, {of(0, top), top, math.MaxInt, nil},
		{of(0, top), -1, 1, of(0, 1)}, {of(0, top), -9, 0, nil}, {nil, 0, 9, nil}, {spans{}, 0, 9, nil}, {wrong(), math.MinInt, math.MaxInt, nil},
	}
	for _, r := range rows {
		if got := span.Cut(r.l, r.from, r.to); !slices.Equal(got, r.want) {
			t.Errorf("Cut(%v, %d, %d): %v", r.l, r.from, r.to, got)
		}
	}
	for _, l := range lists() {
		for _, from := range marks(l) {
			for _, to := range marks(l) {
				if got := span.Cut(l, from, to); !isNormal(got) || !slices.Equal(got, modelCut(l, from, to)) {
					t.Errorf("Cut(%v, %d, %d): %v", l, from, to, got)
				}
			}
		}
	}
}

// P4.2
func TestWithout(t *testing.T) {
	l := of(5, 9, 1, 3, 3, 4, 8, 12)
	rows := []struct {
		l    spans
		x    api.Span
		want spans
	}{
		{l, api.Span{From: 3, To: 8}, of(1, 3, 8, 12)}, {l, api.Span{From: 4, To: 5}, of(1, 4, 5, 12)}, {l, api.Span{From: 20, To: 30}, of(1, 4, 5, 12)},
		{l, api.Span{From: 0, To: 1}, of(1, 4, 5, 12)}, {l, api.Span{From: 12, To: 13}, of(1, 4, 5, 12)}, {l, api.Span{From: 1, To: 2}, of(2, 4, 5, 12)},
		{l, api.Span{From: 0, To: 2}, of(2, 4, 5, 12)}, {l, api.Span{From: 11, To: 12}, of(1, 4, 5, 11)}, {l, api.Span{From: 10, To: 40}, of(1, 4, 5, 10)},
		{l, api.Span{From: 7, To: 8}, of(1, 4, 5, 7, 8, 12)}, {l, api.Span{From: 1, To: 4}, of(5, 12)}, {l, api.Span{From: 5, To: 12}, of(1, 4)},
		{l, api.Span{From: 1, To: 12}, nil}, {l, api.Span{From: 0, To: top}, nil}, {of(0, top), api.Span{From: 0, To: top}, nil},
		{of(0, top), api.Span{From: 0, To: 1}, of(1, top)}, {of(0, top), api.Span{From: top - 1, To: top}, of(0, top-1)},
		{of(0, top), api.Span{From: 5, To: 6}, of(0, 5, 6, top)}, {nil, api.Span{From: 1, To: 2}, nil}, {spans{}, api.Span{From: 1, To: 2}, nil},
		{wrong(), api.Span{From: 5, To: 6}, nil},
	}
	for _, r := range rows {
		if got := span.Without(r.l, r.x); !slices.Equal(got, r.want) {
			t.Errorf("Without(%v, %v): %v", r.l, r.x, got)
		}
	}
	for _, l := range lists() {
		for _, from := range marks(l) {
			for _, to := range marks(l) {
				x := api.Span{From: from, To: to}
				if got := span.Without(l, x); !isNormal(got) || !slices.Equal(got, modelWithout(l, x)) {
					t.Errorf("Without(%v, %v): %v", l, x, got)
				}
			}
		}
	}
}

// P4.2: a span that is not valid takes nothing out, also where it has numbers of ticks that are there.
func TestWithoutASpanThatIsNotValid(t *testing.T) {
	for _, l := range edges() {
		for _, x := range wrong() {
			if got := span.Without(l, x); !slices.Equal(got, modelNorm(l)) {
				t.Errorf("Without(%v, %v): %v", l, x, got)
			}
		}
	}
}

// P4.3: tick by tick, what is cut and what is left.
func TestTicksAreExact(t *testing.T) {
	r := rand.New(rand.NewSource(6))
	for range 2000 {
		var l spans
		for range r.Intn(7) {
			l = append(l, api.Span{From: r.Intn(24) - 2, To: r.Intn(24) - 2})
		}
		from, to := r.Intn(24)-2, r.Intn(24)-2
		cut, left := span.Cut(l, from, to), span.Without(l, api.Span{From: from, To: to})
		x := spans{{From: from, To: to}}
		for at := -4; at < 26; at++ {
			if got, want := span.In(cut, at), has(l, at) && from <= at && at < to; got != want {
				t.Fatalf("tick %d of Cut(%v, %d, %d) = %v: %v", at, l, from, to, cut, got)
			}
			if got, want := span.In(left, at), has(l, at) && !has(x, at); got != want {
				t.Fatalf("tick %d of Without(%v, %v) = %v: %v", at, l, x[0], left, got)
			}
		}
	}
}

// P4.3: the numbers add up.
func TestNumbersAddUp(t *testing.T) {
	for _, l := range lists() {
		all := span.Total(l)
		for _, at := range marks(l) {
			below, rest := span.Cut(l, math.MinInt, at), span.Cut(l, at, math.MaxInt)
			if got := span.Total(below) + span.Total(rest); got != all {
				t.Errorf("%v cut at %d: %d ticks, want %d", l, at, got, all)
			}
			for _, to := range marks(l) {
				x := api.Span{From: at, To: to}
				taken := 0
				if isValid(x) {
					taken = span.Total(span.Cut(l, at, to))
				}
				if got := taken + span.Total(span.Without(l, x)); got != all {
					t.Errorf("%v with and without %v: %d ticks, want %d", l, x, got, all)
				}
			}
		}
	}
}

// P4.3
func TestNormKeepsNormalSpans(t *testing.T) {
	for _, l := range lists() {
		if isNormal(l) && !slices.Equal(span.Norm(l), l) {
			t.Errorf("Norm(%v): %v", l, span.Norm(l))
		}
		once := span.Norm(l)
		if twice := span.Norm(once); !span.Right(once) || !slices.Equal(once, twice) {
			t.Errorf("Norm(%v): %v, and of that: %v", l, once, twice)
		}
	}
}

// The example of the chapter.
func TestExample(t *testing.T) {
	l := of(5, 9, 1, 3, 3, 4, 8, 12)
	if got := span.Norm(l); !slices.Equal(got, of(1, 4, 5, 12)) || span.Total(l) != 10 {
		t.Errorf("Norm(%v): %v, %d ticks", l, got, span.Total(l))
	}
}

type call struct {
	name string
	do   func(l spans) spans
}

// calls returns all the calls, each with what it returns as a list.
func calls() []call {
	number := func(n int) spans { return of(n, n) }
	truth := func(b bool) spans {
		if b {
			return number(1)
		}
		return number(0)
	}
	return []call{
		{"Right", func(l spans) spans { return truth(span.Right(l)) }},
		{"Norm", span.Norm},
		{"In", func(l spans) spans { return truth(span.In(l, 5)) }},
		{"Total", func(l spans) spans { return number(span.Total(l)) }},
		{"Cut", func(l spans) spans { return span.Cut(l, 2, 8) }},
		{"Cut to all", func(l spans) spans { return span.Cut(l, math.MinInt, math.MaxInt) }},
		{"Cut to none", func(l spans) spans { return span.Cut(l, 9, 2) }},
		{"Without", func(l spans) spans { return span.Without(l, api.Span{From: 3, To: 5}) }},
		{"Without one apart", func(l spans) spans { return span.Without(l, api.Span{From: 500, To: 501}) }},
		{"Without one that is not valid", func(l spans) spans { return span.Without(l, api.Span{From: 5, To: 3}) }},
		{"Without all", func(l spans) spans { return span.Without(l, api.Span{From: 0, To: top}) }},
	}
}

// spill writes over all the memory that l reaches.
func spill(l spans) {
	for i := range l[:cap(l)] {
		l[:cap(l)][i] = api.Span{From: -77, To: -77}
	}
}

// R3: no call changes its list or what lies behind it, and no result shares memory with it.
func TestMemory(t *testing.T) {
	behind := of(50, 51, 3, 4, -9, 9)
	for _, c := range calls() {
		for _, l := range edges() {
			for spare := range len(behind) + 1 {
				whole := append(append(make(spans, 0, len(l)+spare), l...), behind[:spare]...)
				before := append(spans{}, whole...)
				got := c.do(whole[:len(l)])
				if !slices.Equal(whole, before) {
					t.Errorf("%s(%v) changed its argument: %v", c.name, l, whole)
				}
				kept := append(spans{}, got...)
				spill(whole)
				if !slices.Equal(got, kept) {
					t.Errorf("%s(%v) keeps its argument", c.name, l)
				}
				copy(whole, before)
				spill(got)
				if !slices.Equal(whole, before) {
					t.Errorf("%s(%v): the result shares memory with the argument", c.name, l)
				}
			}
		}
	}
}

// R3: two results of one list share nothing with each other, and writing over one does not change later ones.
func TestResultsAreApart(t *testing.T) {
	for _, c := range calls() {
		for _, l := range edges() {
			one, two := c.do(l), c.do(l)
			kept := append(spans{}, two...)
			spill(one)
			if !slices.Equal(two, kept) || !slices.Equal(c.do(l), kept) {
				t.Errorf("%s(%v): two results share memory", c.name, l)
			}
		}
	}
}

// R3: a nil list and an empty one are the same.
func TestNilAndEmpty(t *testing.T) {
	for _, c := range calls() {
		if a, b := c.do(nil), c.do(spans{}); !slices.Equal(a, b) {
			t.Errorf("%s: %v for nil, %v for an empty list", c.name, a, b)
		}
	}
}

// R4: the results hang on the spans alone, not on earlier calls and not on a capacity.
func TestDeterminism(t *testing.T) {
	for _, c := range calls() {
		for _, l := range lists() {
			roomy := append(make(spans, 0, 2*len(l)+3), l...)
			if a, b, again := c.do(l), c.do(roomy), c.do(l); !slices.Equal(a, b) || !slices.Equal(a, again) {
				t.Errorf("%s(%v): %v, then %v and %v", c.name, l, a, b, again)
			}
		}
	}
}
