package demand_test

import (
	"math"
	"math/big"
	"math/rand"
	"slices"
	"testing"

	"remontoir/api"
	"remontoir/demand"
	"remontoir/task"
)

const most = api.MaxNum

type tasks = []api.Task

type pattern = [][]int

// of returns tasks of the numbers taken in threes: C, D, T.
func of(n ...int) tasks {
	var l tasks
	for i := 0; i+2 < len(n); i += 3 {
		l = append(l, api.Task{C: n[i], D: n[i+1], T: n[i+2]})
	}
	return l
}

// modelBound is the document's word, worked out in numbers without a limit.
func modelBound(l tasks, t int) (int, api.Errno) {
	if !task.All(l) || t < 0 || t > most {
		return 0, api.ErrArg
	}
	sum := new(big.Int)
	for _, x := range l {
		k := new(big.Int).Sub(big.NewInt(int64(t)), big.NewInt(int64(x.D)))
		k.Div(k, big.NewInt(int64(x.T))) // Euclid's division: the greatest k with k * T + D at most t, or a number below 0
		k.Add(k, big.NewInt(1))
		if k.Sign() > 0 {
			sum.Add(sum, k.Mul(k, big.NewInt(int64(x.C))))
		}
	}
	if sum.Cmp(big.NewInt(most)) > 0 {
		return 0, api.ErrLarge
	}
	return int(sum.Int64()), api.OK
}

// modelLegal is the document's word.
func modelLegal(l tasks, p pattern) bool {
	if !task.All(l) || len(p) != len(l) {
		return false
	}
	for i, releases := range p {
		if len(releases) > 1000 {
			return false
		}
		for k, at := range releases {
			if at < 0 || at > most || k > 0 && releases[k] < releases[k-1]+l[i].T {
				return false
			}
		}
	}
	return true
}

// modelOf is the document's word.
func modelOf(l tasks, p pattern, a, b int) (int, api.Errno) {
	if !modelLegal(l, p) {
		return 0, api.ErrArg
	}
	sum := 0
	for i, releases := range p {
		for _, at := range releases {
			if !(at < a) && !(at+l[i].D > b) {
				sum += l[i].C
			}
		}
	}
	return sum, api.OK
}

// checkBound checks one call of Bound.
func checkBound(t *testing.T, l tasks, at, want int, err api.Errno) {
	t.Helper()
	if n, e := demand.Bound(l, at); n != want || e != err {
		t.Errorf("Bound(%v, %d): %d, %d, want %d, %d", l, at, n, e, want, err)
	}
}

// checkOf checks one call of Of.
func checkOf(t *testing.T, l tasks, p pattern, a, b, want int, err api.Errno) {
	t.Helper()
	if n, e := demand.Of(l, p, a, b); n != want || e != err {
		t.Errorf("Of(%v, %v, %d, %d): %d, %d, want %d, %d", l, p, a, b, n, e, want, err)
	}
}

// short returns all tasks with a T of at most n, without sections.
func short(n int) tasks {
	var l tasks
	for p := 1; p <= n; p++ {
		for d := 1; d <= p; d++ {
			for c := 1; c <= d; c++ {
				l = append(l, of(c, d, p)...)
			}
		}
	}
	return l
}

// wrong returns tasks that are not valid.
func wrong() tasks {
	return append(of(0, 0, 0, 0, 5, 9, -1, 5, 9, 6, 5, 9, 1, 10, 9, 1, 5, 201, 1, 201, 201, 201, 201, 201, 1, 0, 9, 1, -5, 9, 1, 1, 0,
		math.MinInt, math.MinInt, math.MinInt, math.MaxInt, math.MaxInt, math.MaxInt, 1, math.MaxInt, 9, 1, math.MinInt, 9, 1, 5, math.MaxInt, math.MinInt, 5, 9),
		api.Task{C: 3, D: 5, T: 9, Secs: []api.Sec{{Res: 4, At: 0, Len: 1}}}, api.Task{C: 3, D: 5, T: 9, Secs: []api.Sec{{Res: 1, At: 0, Len: 4}}},
		api.Task{C: 3, D: 5, T: 9, Secs: []api.Sec{{Res: 1, At: 0, Len: 2}, {Res: 1, At: 1, Len: 1}}}, api.Task{C: 9, D: 9, T: 9, Secs: make([]api.Sec, 5)})
}

// mixed returns lists of up to eight valid tasks by chance, some of them with sections.
func mixed() []tasks {
	r := rand.New(rand.NewSource(7))
	var out []tasks
	for range 400 {
		size := []int{3, 12, 40, 200}[r.Intn(4)]
		var l tasks
		for range r.Intn(api.MaxTasks + 1) {
			p := 1 + r.Intn(size)
			d := 1 + r.Intn(p)
			x := api.Task{C: 1 + r.Intn(d), D: d, T: p}
			if r.Intn(3) == 0 {
				x.Secs = []api.Sec{{Res: r.Intn(api.MaxRes), At: r.Intn(x.C), Len: 1}}
			}
			l = append(l, x)
		}
		out = append(out, l)
	}
	return out
}

// lists returns these, and lists of one, two and eight tasks, with the least and the greatest numbers too.
func lists() []tasks {
	out := append(mixed(), nil, tasks{}, of(2, 4, 6), of(2, 4, 6, 1, 3, 3), of(200, 200, 200, 1, 1, 1), of(1, 1, 200, 1, 200, 200), slices.Repeat(of(1, 1, 1), 8), slices.Repeat(of(200, 200, 200), 8))
	for _, x := range append(short(4), of(1, 1, 200, 1, 200, 200, 200, 200, 200, 199, 199, 200, 7, 9, 13)...) {
		out = append(out, tasks{x})
	}
	return out
}

// lengths returns numbers of ticks: the edges of the tasks and those beside them, the limits, and the ends of int.
func lengths(l tasks) []int {
	out := []int{math.MinInt, math.MinInt + 1, -most - 1, -most, -2, -1, 0, 1, 2, 3, 199, 200, 201, 1000, 3000, 1 << 31, 1 << 59, 1 << 60, 1 << 61, most - 1, most, most + 1, math.MaxInt - 1, math.MaxInt}
	for _, x := range l {
		for k := range 4 {
			out = append(out, k*x.T+x.D-1, k*x.T+x.D, k*x.T+x.D+1, k*x.T)
		}
		last := (most-x.D)/max(1, x.T)*x.T + x.D // the greatest number of ticks from which on one job more counts
		out = append(out, last-1, last, last-x.T)
	}
	slices.Sort(out)
	return slices.Compact(out)
}

// P7.1
func TestBound(t *testing.T) {
	rows := []struct {
		l        tasks
		at, want int
	}{
		{of(2, 4, 6), 0, 0}, {of(2, 4, 6), 3, 0}, {of(2, 4, 6), 4, 2}, {of(2, 4, 6), 5, 2}, {of(2, 4, 6), 6, 2}, {of(2, 4, 6), 9, 2}, {of(2, 4, 6), 10, 4}, {of(2, 4, 6), 15, 4}, {of(2, 4, 6), 16, 6},
		{of(6, 6, 6), 5, 0}, {of(6, 6, 6), 6, 6}, {of(6, 6, 6), 11, 6}, {of(6, 6, 6), 12, 12},
		{of(1, 1, 1), 0, 0}, {of(1, 1, 1), 1, 1}, {of(1, 1, 1), 2, 2}, {of(1, 1, 1), 1000, 1000},
		{of(1, 1, 200), 0, 0}, {of(1, 1, 200), 1, 1}, {of(1, 1, 200), 200, 1}, {of(1, 1, 200), 201, 2},
		{of(200, 200, 200), 199, 0}, {of(200, 200, 200), 200, 200}, {of(200, 200, 200), 399, 200}, {of(200, 200, 200), 400, 400},
		{of(2, 4, 6, 1, 3, 3), 2, 0}, {of(2, 4, 6, 1, 3, 3), 3, 1}, {of(2, 4, 6, 1, 3, 3), 4, 3}, {of(2, 4, 6, 1, 3, 3), 10, 7}, {of(1, 3, 3, 2, 4, 6), 10, 7},
		{of(2, 4, 6, 2, 4, 6, 2, 4, 6), 10, 12},
		{slices.Repeat(of(3, 4, 5), 8), 3, 0}, {slices.Repeat(of(3, 4, 5), 8), 4, 24}, {slices.Repeat(of(3, 4, 5), 8), 9, 48},
		{of(1, 1, 1, 1, 2, 2, 1, 3, 3, 1, 4, 4, 1, 5, 5, 1, 6, 6, 1, 7, 7, 1, 8, 8), 8, 8 + 4 + 2 + 2 + 1 + 1 + 1 + 1},
	}
	for _, r := range rows {
		checkBound(t, r.l, r.at, r.want, api.OK)
	}
}

// P7.1: C times the number of k, one after the other.
func TestBoundAsDescribed(t *testing.T) {
	for _, l := range lists() {
		for at := range 500 {
			want := 0
			for _, x := range l {
				for k := 0; k*x.T+x.D <= at; k++ {
					want += x.C
				}
			}
			checkBound(t, l, at, want, api.OK)
		}
	}
}

// P7.1
func TestBoundAtAllEdges(t *testing.T) {
	count := map[api.Errno]int{}
	for _, l := range lists() {
		for _, at := range lengths(l) {
			want, err := modelBound(l, at)
			checkBound(t, l, at, want, err)
			count[err]++
		}
	}
	if count[api.OK] < 1000 || count[api.ErrArg] < 1000 || count[api.ErrLarge] < 1000 {
		t.Errorf("too few cases of one kind: %v", count)
	}
}

// P7.1
func TestBoundOfWrongLengths(t *testing.T) {
	for _, l := range append(lists(), wrong(), slices.Repeat(of(1, 1, 1), 9)) {
		for _, at := range []int{math.MinInt, math.MinInt + 1, -most - 1, -most, -200, -1, most + 1, most + 2, math.MaxInt - 1, math.MaxInt} {
			checkBound(t, l, at, 0, api.ErrArg)
		}
	}
	for _, at := range []int{0, 1, most} {
		checkBound(t, nil, at, 0, api.OK)
	}
}

// P7.1: three ones have a sum beyond the ends of int, that of four is below 0 if it wraps round, and that of five permitted.
func TestBoundThatIsTooLarge(t *testing.T) {
	ones := func(n int) tasks { return slices.Repeat(of(1, 1, 1), n) }
	rows := []struct {
		l        tasks
		at, want int
		err      api.Errno
	}{
		{ones(1), most, most, api.OK}, {ones(1), most - 1, most - 1, api.OK},
		{of(200, 200, 200), most, most / 200 * 200, api.OK}, {of(200, 200, 200), most / 200 * 200, most / 200 * 200, api.OK},
		{of(1, 1, 2), most, 1 << 61, api.OK}, {of(1, 2, 2), most, 1<<61 - 1, api.OK}, {of(3, 3, 3), most, most, api.OK},
		{of(1, 1, 2, 1, 2, 2), most, most, api.OK}, {of(1, 2, 2, 1, 1, 2), most, most, api.OK}, {of(1, 2, 2, 1, 2, 2), most, most - 1, api.OK},
		{of(1, 1, 2, 1, 1, 2), most, 0, api.ErrLarge}, {of(1, 1, 2, 1, 1, 2), most - 1, most - 1, api.OK},
		{of(1, 1, 1, 1, 200, 200), most, 0, api.ErrLarge}, {of(1, 200, 200, 1, 1, 1), most, 0, api.ErrLarge},
		{ones(2), 1<<61 - 1, 1<<62 - 2, api.OK}, {ones(2), 1 << 61, 0, api.ErrLarge}, {ones(2), most, 0, api.ErrLarge},
		{ones(3), most / 3, most, api.OK}, {ones(3), most/3 + 1, 0, api.ErrLarge}, {ones(3), most, 0, api.ErrLarge},
		{ones(4), 1<<60 - 1, 1<<62 - 4, api.OK}, {ones(4), 1 << 60, 0, api.ErrLarge}, {ones(4), most, 0, api.ErrLarge},
		{ones(5), most, 0, api.ErrLarge}, {ones(6), most, 0, api.ErrLarge}, {ones(7), most, 0, api.ErrLarge},
		{ones(8), 1<<59 - 1, 1<<62 - 8, api.OK}, {ones(8), 1 << 59, 0, api.ErrLarge}, {ones(8), 1 << 61, 0, api.ErrLarge}, {ones(8), most, 0, api.ErrLarge},
		{slices.Concat(of(1, 1, 200), ones(7)), most, 0, api.ErrLarge}, {slices.Concat(ones(7), of(1, 1, 200)), most, 0, api.ErrLarge},
		{append(ones(5), wrong()[0]), most, 0, api.ErrArg}, {ones(9), most, 0, api.ErrArg}, {ones(8), most + 1, 0, api.ErrArg},
	}
	for _, r := range rows {
		checkBound(t, r.l, r.at, r.want, r.err)
	}
}

// P7.1: the smallest number of ticks for which the bound is too large, and those beside it.
func TestBoundWhereItBecomesTooLarge(t *testing.T) {
	found := 0
	for _, l := range lists() {
		if _, err := modelBound(l, most); err != api.ErrLarge {
			continue
		}
		found++
		low, high := 0, most
		for high-low > 1 {
			middle := low + (high-low)/2
			if _, err := modelBound(l, middle); err == api.OK {
				low = middle
			} else {
				high = middle
			}
		}
		for _, at := range []int{low - 1, low, high, high + 1, high + 200} {
			want, err := modelBound(l, at)
			checkBound(t, l, at, want, err)
		}
	}
	if found < 100 {
		t.Errorf("too few lists with a bound that is too large: %d", found)
	}
}

// fine returns a pattern of l with two releases for each task, the second one as early as possible.
func fine(l tasks) pattern {
	p := pattern{}
	for _, x := range l {
		p = append(p, []int{3, 3 + max(0, min(x.T, 300))})
	}
	return p
}

// P7.1, P7.2: one task that is not valid, at any place, of one to nine tasks.
func TestTasksThatAreNotValid(t *testing.T) {
	for _, x := range wrong() {
		if task.Right(x) {
			t.Fatalf("%v is valid", x)
		}
		for n := 1; n <= api.MaxTasks+1; n++ {
			for place := range n {
				l := slices.Repeat(of(2, 4, 6), n)
				l[place] = x
				for _, at := range []int{-1, 0, 4, 1000, most, most + 1} {
					checkBound(t, l, at, 0, api.ErrArg)
				}
				for _, p := range []pattern{fine(l), make(pattern, n), make(pattern, n-1), nil} {
					if demand.Legal(l, p) {
						t.Errorf("Legal(%v, %v): true", l, p)
					}
					checkOf(t, l, p, 0, 1000, 0, api.ErrArg)
					checkOf(t, l, p, 1000, 0, 0, api.ErrArg)
				}
			}
		}
	}
}

// P7.1, P7.2: from no task to one more than there may be, and far more.
func TestTheNumberOfTasks(t *testing.T) {
	for _, n := range []int{0, 1, 2, 3, 4, 5, 6, 7, 8, 9, 10, 16, 1000} {
		l := slices.Repeat(of(2, 4, 6), n)
		err := api.OK
		if n > api.MaxTasks {
			err = api.ErrArg
		}
		counted := n
		if err != api.OK {
			counted = 0
		}
		checkBound(t, l, 10, 4*counted, err)
		checkOf(t, l, fine(l), 3, 13, 4*counted, err)
		checkOf(t, l, fine(l), 4, 13, 2*counted, err)
		if got := demand.Legal(l, fine(l)); got != (err == api.OK) {
			t.Errorf("Legal of %d tasks: %v", n, got)
		}
	}
}

// P7.2: as many lists as tasks, one less and one more, and none.
func TestTheNumberOfLists(t *testing.T) {
	for n := range api.MaxTasks + 1 {
		l := slices.Repeat(of(2, 4, 6), n)
		for m := range 2*api.MaxTasks + 2 {
			for _, p := range []pattern{make(pattern, m), fine(slices.Repeat(of(2, 4, 6), m))} {
				err := api.OK
				if n != m {
					err = api.ErrArg
				}
				if got := demand.Legal(l, p); got != (n == m) {
					t.Errorf("Legal of %d tasks and %d lists: %v", n, m, got)
				}
				if _, e := demand.Of(l, p, 0, 100); e != err {
					t.Errorf("Of of %d tasks and %d lists: error %d", n, m, e)
				}
			}
		}
	}
}

// every returns the releases from first on that are step apart.
func every(first, step, n int) []int {
	l := make([]int, n)
	for k := range l {
		l[k] = first + k*step
	}
	return l
}

// P7.2: 1000 releases are a pattern, one more is none.
func TestTheNumberOfReleases(t *testing.T) {
	for _, x := range of(2, 4, 6, 1, 1, 1, 200, 200, 200) {
		for _, n := range []int{0, 1, 2, 3, 100, 999, 1000, 1001, 1002, 2000, 5000} {
			for _, first := range []int{0, 1, most - (n+1)*x.T} {
				good := n <= 1000
				want, err := n*x.C, api.OK
				if !good {
					want, err = 0, api.ErrArg
				}
				p := pattern{every(first, x.T, n)}
				if got := demand.Legal(tasks{x}, p); got != good {
					t.Errorf("Legal of %v, with %d releases: %v", x, n, got)
				}
				if m, e := demand.Of(tasks{x}, p, 0, math.MaxInt); m != want || e != err {
					t.Errorf("Of of %v, with %d releases: %d, %d, want %d, %d", x, n, m, e, want, err)
				}
				for place := range 3 {
					q := pattern{{0, 6}, {1, 7}, {2}}
					q[place] = p[0]
					if got := demand.Legal(tasks{x, x, x}, q); first == 0 && x.T <= 6 && got != good {
						t.Errorf("Legal of three %v, with %d releases at %d: %v", x, n, place, got)
					}
				}
			}
		}
	}
	l, p := tasks{}, pattern{}
	for len(l) < api.MaxTasks {
		l, p = append(l, of(200, 200, 200)...), append(p, every(0, 200, 1000))
	}
	checkOf(t, l, p, 0, 200000, 8*200*1000, api.OK)
}

// P7.2
func TestLegal(t *testing.T) {
	rows := []struct {
		p    pattern // of C 2, D 4, T 6, and of C 1, D 3, T 3
		want bool
	}{
		{pattern{nil, nil}, true}, {pattern{{}, {}}, true}, {pattern{{0}, nil}, true}, {pattern{nil, {0}}, true}, {pattern{{0}, {0}}, true},
		{pattern{{0, 6}, {0, 3}}, true}, {pattern{{0, 5}, {0, 3}}, false}, {pattern{{0, 6}, {0, 2}}, false}, {pattern{{0, 3}, {0, 6}}, false},
		{pattern{{1, 7}, {0, 4, 8}}, true}, {pattern{{1, 6}, {0, 4, 8}}, false}, {pattern{{1, 7}, {0, 4, 6}}, false}, {pattern{{0, 60, 66, 1000}, nil}, true},
		{pattern{{0, 6, 12, 18, 24}, {5, 8, 11}}, true}, {pattern{{0, 6, 12, 17, 24}, {5, 8, 11}}, false}, {pattern{{0, 6, 12, 18, 23}, nil}, false}, {pattern{{1, 6, 12}, nil}, false},
		{pattern{{0, 0}, nil}, false}, {pattern{nil, {7, 7}}, false}, {pattern{{6, 0}, nil}, false}, {pattern{{0, 12, 6}, nil}, false}, {pattern{nil, {9, 6, 3}}, false},
		{pattern{{-1}, nil}, false}, {pattern{nil, {-1}}, false}, {pattern{{-1, 6}, nil}, false}, {pattern{{-6, 0, 6}, nil}, false}, {pattern{{0, -1}, nil}, false}, {pattern{{math.MinInt}, nil}, false},
		{pattern{{math.MinInt, 0}, nil}, false}, {pattern{{0, math.MinInt}, nil}, false}, {pattern{{most, math.MinInt}, nil}, false}, {pattern{{most, math.MinInt + most}, nil}, false}, {pattern{nil, {-most, 0, most}}, false},
		{pattern{{most}, {most}}, true}, {pattern{{0, most}, {1, most}}, true}, {pattern{{most - 6, most}, {most - 3, most}}, true}, {pattern{{most - 5, most}, nil}, false}, {pattern{nil, {most - 2, most}}, false},
		{pattern{{most - 12, most - 6, most}, nil}, true}, {pattern{{most, most}, nil}, false}, {pattern{{most + 1}, nil}, false}, {pattern{nil, {most + 1}}, false}, {pattern{{most - 6, most, most + 6}, nil}, false},
		{pattern{{math.MaxInt}, nil}, false}, {pattern{{0, math.MaxInt}, nil}, false}, {pattern{{math.MaxInt - 5}, nil}, false}, {pattern{{math.MinInt, math.MaxInt}, nil}, false}, {pattern{{math.MaxInt, math.MinInt + 5}, nil}, false},
		{nil, false}, {pattern{}, false}, {pattern{{0}}, false}, {pattern{{0}, {0}, {0}}, false}, {pattern{nil, nil, nil}, false}, {pattern{nil}, false},
	}
	l := of(2, 4, 6, 1, 3, 3)
	for _, r := range rows {
		if got := demand.Legal(l, r.p); got != r.want {
			t.Errorf("Legal(%v): %v", r.p, got)
		}
		err := api.OK
		if !r.want {
			err = api.ErrArg
		}
		for _, ends := range [][2]int{{0, 30}, {0, math.MaxInt}, {30, 0}, {math.MinInt, math.MaxInt}, {math.MaxInt, math.MinInt}} {
			n, e := demand.Of(l, r.p, ends[0], ends[1])
			if e != err || err != api.OK && n != 0 {
				t.Errorf("Of(%v, %v): %d, %d", r.p, ends, n, e)
			}
		}
	}
	if !demand.Legal(nil, nil) || demand.Legal(nil, pattern{nil}) || demand.Legal(nil, pattern{{0}}) {
		t.Error("Legal of no tasks")
	}
}

// P7.2: releases less than T apart, just T apart, and further apart, at any place of the list.
func TestReleasesApart(t *testing.T) {
	for _, x := range append(short(4), of(1, 1, 200, 200, 200, 200, 7, 9, 13)...) {
		for _, first := range []int{0, 1, most/2 + 1, most - 2000} {
			for by := -x.T - 2; by <= x.T+2; by++ {
				for place := range 4 {
					releases := every(first, x.T, 4)
					for k := place + 1; k < 4; k++ {
						releases[k] += by
					}
					want := place == 3 || by >= 0
					if got := demand.Legal(tasks{x}, pattern{releases}); got != want {
						t.Errorf("Legal of %v, with %v: %v", x, releases, got)
					}
				}
			}
		}
	}
}

// P7.2
func TestOf(t *testing.T) {
	l, p := of(2, 4, 6, 1, 3, 3), pattern{{1, 7}, {0, 4, 8}}
	rows := []struct{ a, b, want int }{
		{0, 0, 0}, {0, 2, 0}, {0, 3, 1}, {0, 4, 1}, {0, 5, 3}, {0, 6, 3}, {0, 7, 4}, {0, 10, 4}, {0, 11, 7}, {0, 1000, 7},
		{1, 2, 0}, {1, 3, 0}, {1, 4, 0}, {1, 5, 2}, {1, 7, 3}, {1, 10, 3}, {1, 11, 6}, {2, 11, 4}, {4, 11, 4}, {5, 11, 3}, {7, 11, 3}, {8, 11, 1}, {8, 10, 0}, {9, 11, 0}, {9, 1000, 0},
		{-1, 11, 7}, {-1000, 11, 7}, {-1, 2, 0}, {math.MinInt, 2, 0}, {math.MinInt, 3, 1}, {math.MinInt, math.MaxInt, 7}, {0, math.MaxInt, 7}, {8, math.MaxInt, 1}, {9, math.MaxInt, 0}, {0, most, 7},
		{5, 5, 0}, {4, 4, 0}, {11, 11, 0}, {5, 4, 0}, {11, 0, 0}, {1, 0, 0}, {0, -1, 0}, {-5, -1, 0}, {-1, -5, 0}, {8, 5, 0},
		{math.MinInt, math.MinInt, 0}, {math.MaxInt, math.MaxInt, 0}, {math.MaxInt, math.MinInt, 0}, {0, math.MinInt, 0}, {math.MaxInt, 11, 0}, {most, 11, 0}, {math.MinInt, -1, 0}, {math.MinInt, math.MinInt + 3, 0},
	}
	for _, r := range rows {
		checkOf(t, l, p, r.a, r.b, r.want, api.OK)
		checkOf(t, tasks{l[1], l[0]}, pattern{p[1], p[0]}, r.a, r.b, r.want, api.OK)
		checkOf(t, l, pattern{nil, nil}, r.a, r.b, 0, api.OK)
		checkOf(t, nil, nil, r.a, r.b, 0, api.OK)
	}
}

// P7.2: releases just before MaxNum have deadlines beyond it.
func TestOfAtTheLimits(t *testing.T) {
	l, p := of(2, 4, 6), pattern{{0, most - 6, most}}
	for _, r := range []struct{ a, b, want int }{
		{0, most, 4}, {0, most - 2, 4}, {0, most - 3, 2}, {1, most - 2, 2}, {most - 6, most - 2, 2}, {most - 5, most - 2, 0}, {most - 5, most + 3, 0}, {most - 5, most + 4, 2},
		{most, most + 3, 0}, {most, most + 4, 2}, {most + 1, most + 4, 0}, {most, math.MaxInt, 2}, {most + 1, math.MaxInt, 0}, {math.MinInt, most + 4, 6}, {math.MinInt, most + 3, 4}, {math.MinInt, math.MaxInt, 6},
		{math.MaxInt, math.MinInt, 0}, {math.MaxInt, math.MinInt + 3, 0},
	} {
		checkOf(t, l, p, r.a, r.b, r.want, api.OK)
	}
}

// released returns a pattern of l by chance, some of them with a fault.
func released(r *rand.Rand, l tasks) pattern {
	p := pattern{}
	for _, x := range l {
		at := r.Intn(10)
		var releases []int
		for range r.Intn(8) {
			releases = append(releases, at)
			at += x.T + r.Intn(3)*r.Intn(x.T+3)
		}
		p = append(p, releases)
	}
	if len(p) == 0 || r.Intn(3) > 0 {
		return p
	}
	k := r.Intn(len(p))
	switch releases := p[k]; {
	case r.Intn(4) == 0:
		return p[:k]
	case len(releases) > 0:
		releases[r.Intn(len(releases))] += r.Intn(5) - 2
	}
	return p
}

// ends returns ticks: the releases and deadlines of a pattern, those beside them, and the ends of int.
func ends(l tasks, p pattern) []int {
	out := []int{math.MinInt, -1, 0, most, math.MaxInt}
	for i, releases := range p {
		for _, at := range releases {
			out = append(out, at-1, at, at+1, at+l[i].D-1, at+l[i].D, at+l[i].D+1)
		}
	}
	slices.Sort(out)
	return slices.Compact(out)
}

// P7.2, and the first half of P7.3: patterns by chance, some of which are none, from any tick to any other.
func TestOfAsDescribed(t *testing.T) {
	r := rand.New(rand.NewSource(72))
	count := map[bool]int{}
	for _, l := range lists() {
		for range 3 {
			p := released(r, l)
			good := modelLegal(l, p)
			if got := demand.Legal(l, p); got != good {
				t.Errorf("Legal(%v, %v): %v", l, p, got)
			}
			count[good]++
			at := ends(l, p)
			for _, a := range at {
				b := at[r.Intn(len(at))]
				for _, b := range []int{b, a, a + firstD(l), math.MaxInt, math.MinInt} {
					want, err := modelOf(l, p, a, b)
					checkOf(t, l, p, a, b, want, err)
					if a < 0 || b < a || b > most {
						continue
					}
					if bound, e := demand.Bound(l, b-a); e == api.OK && want > bound {
						t.Errorf("%v, %v: from %d to %d the demand is %d, and the bound %d", l, p, a, b, want, bound)
					}
				}
			}
		}
	}
	if count[true] < 300 || count[false] < 100 {
		t.Errorf("too few patterns of one kind: %v", count)
	}
}

// firstD returns the D of the first task; 0, if there is none.
func firstD(l tasks) int {
	if len(l) == 0 {
		return 0
	}
	return l[0].D
}

// patterns returns all lists of releases below n of a task with this T.
func patterns(n, period int) pattern {
	out := pattern{nil}
	for k := 0; k < len(out); k++ {
		next := 0
		if m := len(out[k]); m > 0 {
			next = out[k][m-1] + period
		}
		for at := next; at < n; at++ {
			out = append(out, append(slices.Clone(out[k]), at))
		}
	}
	return out
}

// greatest returns, for each number of ticks up to n, the greatest demand of all patterns with releases below n.
func greatest(t *testing.T, l tasks, all []pattern, n int) []int {
	t.Helper()
	out := make([]int, n+1)
	for _, p := range all {
		for at := range out {
			for a := -1; a+at <= n+1; a++ {
				d, err := demand.Of(l, p, a, a+at)
				if err != api.OK {
					t.Fatalf("Of(%v, %v, %d, %d): error %d", l, p, a, a+at, err)
				}
				out[at] = max(out[at], d)
			}
		}
	}
	return out
}

// P7.3: of all the patterns of one or two tasks the greatest demand is the bound, neither less nor more.
func TestTheBoundIsTheGreatestDemand(t *testing.T) {
	check := func(l tasks, all []pattern, n int) {
		for at, want := range greatest(t, l, all, n) {
			checkBound(t, l, at, want, api.OK)
		}
	}
	for _, x := range short(5) {
		var all []pattern
		for _, releases := range patterns(9, x.T) {
			all = append(all, pattern{releases})
		}
		check(tasks{x}, all, 9)
	}
	for _, x := range short(3) {
		for _, y := range short(3) {
			var all []pattern
			for _, first := range patterns(5, x.T) {
				for _, second := range patterns(5, y.T) {
					all = append(all, pattern{first, second})
				}
			}
			check(tasks{x, y}, all, 5)
		}
	}
}

// P7.3: all tasks are released at 0, and then as early as possible.
func TestTheEarliestPatternHasTheBound(t *testing.T) {
	for _, l := range lists() {
		p := pattern{}
		for _, x := range l {
			p = append(p, every(0, x.T, 1000))
		}
		for at := range 999 {
			want, err := demand.Bound(l, at)
			checkOf(t, l, p, 0, at, want, err)
			if at%100 == 0 {
				checkOf(t, l, p, -at, at, want, err)
			}
		}
	}
}

// P7.4: with more ticks, and with more tasks, the bound is not less; if it is too large, it stays so.
func TestTheBoundNeverDecreases(t *testing.T) {
	grown := 0
	for _, l := range lists() {
		before, beforeErr := 0, api.OK
		at := append(every(0, 1, 450), lengths(l)...)
		slices.Sort(at)
		for _, n := range at {
			if n < 0 || n > most {
				continue
			}
			bound, err := demand.Bound(l, n)
			if err == api.OK && bound < before || beforeErr == api.ErrLarge && err == api.OK {
				t.Errorf("%v: the bound for %d is %d, %d, and before it %d, %d", l, n, bound, err, before, beforeErr)
			}
			if len(l) > 0 {
				place := n % len(l)
				fewer := slices.Delete(slices.Clone(l), place, place+1)
				less, lessErr := demand.Bound(fewer, n)
				if err == api.OK && (less > bound || lessErr != api.OK) {
					t.Errorf("%v: the bound for %d is %d, %d, and without task %d it is %d, %d", l, n, bound, err, place, less, lessErr)
				}
				if lessErr == api.OK && (err != api.OK || less < bound) {
					grown++
				}
			}
			before, beforeErr = bound, err
		}
	}
	if grown < 1000 {
		t.Errorf("too few bounds that are greater with one task more: %d", grown)
	}
}

// P7.1, P7.2: neither the sections of tasks nor their order matter.
func TestSectionsAndTheOrderOfTasks(t *testing.T) {
	for _, l := range lists() {
		plain := slices.Clone(l)
		for i := range plain {
			plain[i].Secs = nil
		}
		slices.Reverse(plain)
		p, q := fine(l), fine(plain)
		for _, at := range lengths(l) {
			want, err := demand.Bound(l, at)
			checkBound(t, plain, at, want, err)
			want, err = demand.Of(l, p, 3, at)
			checkOf(t, plain, q, 3, at, want, err)
		}
	}
}

// The example of the chapter.
func TestExample(t *testing.T) {
	for at, want := range map[int]int{3: 0, 4: 2, 9: 2, 10: 4} {
		checkBound(t, of(2, 4, 6), at, want, api.OK)
	}
}

// results returns what all the calls return.
func results(l tasks, p pattern, a, b int) []int {
	bound, err := demand.Bound(l, b)
	sum, e := demand.Of(l, p, a, b)
	out := []int{bound, int(err), sum, int(e), 0}
	if demand.Legal(l, p) {
		out[4] = 1
	}
	return out
}

// spare returns the elements of l in new memory with others behind them, and that memory, as a whole.
func spare[E any](l []E, behind ...E) ([]E, []E) {
	whole := append(append(make([]E, 0, len(l)+len(behind)), l...), behind...)
	return whole[:len(l)], whole
}

// given is a list of tasks and a pattern, each list of them with others behind it.
type given struct {
	l, allTasks tasks
	p, allLists pattern
}

// lay returns l and p in new memory.
func lay(l tasks, p pattern) given {
	var g given
	g.l, g.allTasks = spare(l, of(1, 1, 1, 3, 5, 9)...)
	g.p, g.allLists = spare(p, []int{0, 9}, []int{4})
	for i := range g.allTasks {
		g.allTasks[i].Secs, _ = spare(g.allTasks[i].Secs, api.Sec{Res: 2, At: 1, Len: 5})
	}
	for i := range g.allLists {
		g.allLists[i], _ = spare(g.allLists[i], 5000, 3, -1)
	}
	return g
}

// equal reports whether two of these are equal, with all that is behind their lists.
func equal(g, h given) bool {
	sameTask := func(x, y api.Task) bool {
		return task.Same(x, y) && slices.Equal(x.Secs[:cap(x.Secs)], y.Secs[:cap(y.Secs)])
	}
	sameList := func(x, y []int) bool {
		return slices.Equal(x, y) && slices.Equal(x[:cap(x)], y[:cap(y)])
	}
	return slices.EqualFunc(g.allTasks, h.allTasks, sameTask) && slices.EqualFunc(g.allLists, h.allLists, sameList)
}

// some returns lists of tasks with a pattern each, valid and not.
func some() []given {
	r := rand.New(rand.NewSource(73))
	var out []given
	for _, l := range append(lists(), slices.Repeat(of(2, 4, 6), 9)) {
		out = append(out, lay(l, released(r, l)))
	}
	for _, x := range wrong() {
		l := append(of(2, 4, 6), x)
		out = append(out, lay(l, fine(l)))
	}
	l := of(2, 4, 6, 1, 3, 3)
	for _, p := range []pattern{nil, {nil}, {{9, 3}, {0}}, {{0}, {-1}}, {{0, 5}, {1}}, {{most + 1}, {math.MinInt}}, {every(0, 6, 1001), {0}}} {
		out = append(out, lay(l, p))
	}
	return out
}

// R3: no call changes the tasks, their sections, the pattern, or what lies behind these.
func TestArgumentsDoNotChange(t *testing.T) {
	for _, g := range some() {
		before := lay(g.l, g.p)
		for _, at := range lengths(g.l) {
			results(g.l, g.p, 1, at)
		}
		if !equal(g, before) {
			t.Errorf("a call changed its arguments: %v, %v to %v, %v", before.l, before.p, g.l, g.p)
		}
	}
}

// R3, R4: no call keeps what it is given: after other calls, and after a change in the same memory, the results are those of new memory.
func TestNothingIsKept(t *testing.T) {
	all := some()
	memory, secs, listMemory, numbers := make(tasks, 16), make([]api.Sec, 64), make(pattern, 16), make([]int, 4000)
	for n, g := range all {
		want := results(g.l, g.p, 1, 40)
		other := all[(n+1)%len(all)]
		results(other.l, other.p, 1, 40)
		l, p, space, more := memory[:copy(memory, g.l)], listMemory[:copy(listMemory, g.p)], secs, numbers
		for k := range l {
			m := copy(space, l[k].Secs)
			l[k].Secs, space = space[:m], space[m:]
		}
		for k := range p {
			m := copy(more, p[k])
			p[k], more = more[:m], more[m:]
		}
		for range 2 {
			if got := results(l, p, 1, 40); !slices.Equal(got, want) {
				t.Errorf("the results of %v, %v: %v, and before %v", l, p, got, want)
			}
		}
	}
}

// R3: a nil list and an empty one are the same.
func TestNoListAndAnEmptyOne(t *testing.T) {
	for _, at := range lengths(nil) {
		want := results(nil, nil, 0, at)
		for _, l := range []tasks{nil, {}, make(tasks, 0, 3)} {
			for _, p := range []pattern{nil, {}, make(pattern, 0, 3)} {
				if got := results(l, p, 0, at); !slices.Equal(got, want) {
					t.Errorf("no tasks and no lists, for %d: %v, and %v", at, got, want)
				}
			}
		}
		x, y := of(2, 4, 6), of(2, 4, 6)
		y[0].Secs = []api.Sec{}
		if !slices.Equal(results(x, pattern{nil}, 0, at), results(y, pattern{{}}, 0, at)) {
			t.Errorf("no releases, for %d", at)
		}
	}
}

// R1: lists far beyond the limits, any structs, and the ends of int.
func TestEveryCallReturns(t *testing.T) {
	long := api.Task{C: 9, D: 12, T: 20, Secs: make([]api.Sec, 1<<16)}
	for _, l := range []tasks{{long}, make(tasks, 1<<16), slices.Repeat(of(2, 4, 6), 1<<16)} {
		if got := results(l, make(pattern, len(l)), 0, 100); !slices.Equal(got, []int{0, int(api.ErrArg), 0, int(api.ErrArg), 0}) {
			t.Errorf("%d tasks: %v", len(l), got)
		}
	}
	if demand.Legal(of(2, 4, 6), pattern{every(0, 6, 1<<20)}) || demand.Legal(of(2, 4, 6), make(pattern, 1<<20)) {
		t.Error("Legal of far too many")
	}
	edges := []int{math.MinInt, -1, 0, 1, 6, most, math.MaxInt}
	for _, a := range edges {
		for _, b := range edges {
			for _, c := range edges {
				l := append(of(a, b, c), api.Task{C: 1, D: 1, T: 1, Secs: []api.Sec{{Res: a, At: b, Len: c}}})
				for k := range l {
					results(l[k:k+1], pattern{{a, b, c}}, b, c)
				}
				p := pattern{{a, b}, {c}}
				want, err := modelOf(of(2, 4, 6, 1, 3, 3), p, a, c)
				checkOf(t, of(2, 4, 6, 1, 3, 3), p, a, c, want, err)
			}
		}
	}
}
