package verdict_test

import (
	"math"
	"math/big"
	"math/rand"
	"slices"
	"testing"

	"remontoir/api"
	"remontoir/supply"
	"remontoir/task"
	"remontoir/verdict"
)

const most = api.MaxNum

type tasks = []api.Task

// of returns tasks without sections, of the numbers taken in threes: C, D, T.
func of(n ...int) tasks {
	var l tasks
	for i := 0; i+2 < len(n); i += 3 {
		l = append(l, api.Task{C: n[i], D: n[i+1], T: n[i+2]})
	}
	return l
}

// with returns a task with sections, of the numbers taken in threes: Res, At, Len.
func with(c, d, t int, n ...int) api.Task {
	x := api.Task{C: c, D: d, T: t}
	for i := 0; i+2 < len(n); i += 3 {
		x.Secs = append(x.Secs, api.Sec{Res: n[i], At: n[i+1], Len: n[i+2]})
	}
	return x
}

// face returns an interface.
func face(p, b int) api.Face {
	return api.Face{P: p, B: b}
}

// required is the document's word for the bound of the demand, worked out in numbers without a limit.
func required(l tasks, t int) *big.Int {
	sum := new(big.Int)
	for _, x := range l {
		if t >= x.D {
			k := big.NewInt(int64((t-x.D)/x.T + 1))
			sum.Add(sum, k.Mul(k, big.NewInt(int64(x.C))))
		}
	}
	return sum
}

// blocking is the document's word: it looks at each section of each later task beside each section of each earlier one.
func blocking(l tasks, t int) int {
	longest := 0
	for _, later := range l {
		for _, earlier := range l {
			if later.D <= t || earlier.D > t {
				continue
			}
			for _, s := range later.Secs {
				for _, other := range earlier.Secs {
					if s.Res == other.Res {
						longest = max(longest, s.Len)
					}
				}
			}
		}
	}
	return longest
}

// modelNeed is the document's word.
func modelNeed(l tasks, t int) (int, api.Errno) {
	if !task.All(l) || t < 0 || t > most {
		return 0, api.ErrArg
	}
	sum := required(l, t)
	sum.Add(sum, big.NewInt(int64(blocking(l, t))))
	if sum.Cmp(big.NewInt(most)) > 0 {
		return 0, api.ErrLarge
	}
	return int(sum.Int64()), api.OK
}

// modelCycle is the document's word: it tries the numbers one after the other.
func modelCycle(l tasks, f api.Face) (int, int, api.Errno) {
	if !task.All(l) || f.B < 1 || f.B > f.P || f.P > 200 {
		return 0, 0, api.ErrArg
	}
	behind := 2 * f.P
	for _, x := range l {
		behind = max(behind, x.D)
	}
	for n := 1; n+behind <= 3000; n++ {
		if n%f.P == 0 && !slices.ContainsFunc(l, func(x api.Task) bool { return n%x.T != 0 }) {
			return n, n + behind, api.OK
		}
	}
	return 0, 0, api.ErrLarge
}

// needs returns, for each t below n, the sum for valid tasks: it lets each job count from its deadline on.
func needs(l tasks, n int) []int {
	rise := make([]int, n)
	for _, x := range l {
		for at := x.D; at < n; at += x.T {
			rise[at] += x.C
		}
	}
	out, sum := make([]int, n), 0
	for t := range n {
		sum += rise[t]
		out[t] = sum
		if t <= api.MaxTime {
			out[t] += blocking(l, t)
		}
	}
	return out
}

// provided is the document's word for the bound of the supply of a valid interface: of each period that n of the t ticks are in, all ticks but these may be provided. It tries all ticks of a period as the first one.
func provided(f api.Face, t int) int {
	among := func(n int) int { return max(0, f.B-(f.P-n)) }
	least := math.MaxInt
	for from := range f.P {
		first := min(f.P-from, t)
		rest := t - first
		least = min(least, among(first)+rest/f.P*f.B+among(rest%f.P))
	}
	return least
}

// supplies keeps what provided returns for each interface, from 0 on.
type supplies map[api.Face][]int

// below returns what f provides for each t below n.
func (s supplies) below(f api.Face, n int) []int {
	for t := len(s[f]); t < n; t++ {
		s[f] = append(s[f], provided(f, t))
	}
	return s[f][:n]
}

// modelFirst is the document's word, for each t below n; it returns -1, if there is none.
func (s supplies) modelFirst(l tasks, f api.Face, n int) int {
	given := s.below(f, n)
	for t, need := range needs(l, n) {
		if need > given[t] {
			return t
		}
	}
	return -1
}

// overloaded reports whether tasks require more in a cycle than the interface provides.
func overloaded(l tasks, f api.Face) bool {
	sum := new(big.Rat)
	for _, x := range l {
		sum.Add(sum, big.NewRat(int64(x.C), int64(x.T)))
	}
	return sum.Cmp(big.NewRat(int64(f.B), int64(f.P))) > 0
}

// checkNeed checks one call of Need.
func checkNeed(t *testing.T, l tasks, at, want int, err api.Errno) {
	t.Helper()
	if n, e := verdict.Need(l, at); n != want || e != err {
		t.Errorf("Need(%v, %d): %d, %d, want %d, %d", l, at, n, e, want, err)
	}
}

// checkCycle checks one call of Cycle.
func checkCycle(t *testing.T, l tasks, f api.Face, want, end int, err api.Errno) {
	t.Helper()
	if n, m, e := verdict.Cycle(l, f); n != want || m != end || e != err {
		t.Errorf("Cycle(%v, %+v): %d, %d, %d, want %d, %d, %d", l, f, n, m, e, want, end, err)
	}
}

// checkFirst checks one call of First and one of Fits: the tasks don't fit first for this tick; they fit, if it is below 0.
func checkFirst(t *testing.T, l tasks, f api.Face, want int) {
	t.Helper()
	at, found, err := verdict.First(l, f)
	if at != max(0, want) || found != (want >= 0) || err != api.OK {
		t.Errorf("First(%v, %+v): %d, %v, %d, want %d", l, f, at, found, err, want)
	}
	if fits, err := verdict.Fits(l, f); fits != (want < 0) || err != api.OK {
		t.Errorf("Fits(%v, %+v): %v, %d, and the first tick is %d", l, f, fits, err, want)
	}
}

// checkError checks that Cycle, Fits and First return this error, and zero values beside it.
func checkError(t *testing.T, l tasks, f api.Face, want api.Errno) {
	t.Helper()
	checkCycle(t, l, f, 0, 0, want)
	if fits, err := verdict.Fits(l, f); fits || err != want {
		t.Errorf("Fits(%v, %+v): %v, %d, want the error %d", l, f, fits, err, want)
	}
	if at, found, err := verdict.First(l, f); at != 0 || found || err != want {
		t.Errorf("First(%v, %+v): %d, %v, %d, want the error %d", l, f, at, found, err, want)
	}
}

// wrong returns tasks that are not valid.
func wrong() tasks {
	return append(of(0, 0, 0, 0, 5, 9, -1, 5, 9, 6, 5, 9, 1, 10, 9, 1, 5, 201, 1, 201, 201, 201, 201, 201, 1, 0, 9, 1, -5, 9, 1, 1, 0,
		math.MinInt, math.MinInt, math.MinInt, math.MaxInt, math.MaxInt, math.MaxInt, 1, math.MaxInt, 9, 1, math.MinInt, 9, 1, 5, math.MaxInt, math.MinInt, 5, 9),
		with(3, 5, 9, 4, 0, 1), with(3, 5, 9, -1, 0, 1), with(3, 5, 9, 1, 0, 4), with(3, 5, 9, 1, 2, 0), with(3, 5, 9, 1, -1, 2), with(3, 5, 9, 1, 1, math.MaxInt),
		with(3, 5, 9, 1, 0, 2, 1, 1, 1), with(3, 5, 9, 0, 0, 2, 1, 1, 2), with(9, 9, 9, 0, 0, 1, 1, 1, 1, 2, 2, 1, 3, 3, 1, 0, 4, 1))
}

// wrongFaces returns interfaces that are not valid.
func wrongFaces() []api.Face {
	edges := []int{math.MinInt, math.MinInt + 1, -201, -1, 0, 1, 5, 200, 201, most, math.MaxInt - 1, math.MaxInt}
	out := []api.Face{face(5, 6), face(1, 2), face(199, 200), face(4, -4), face(-4, 4)}
	for _, p := range edges {
		for _, b := range edges {
			if b < 1 || p < b || p > 200 {
				out = append(out, face(p, b))
			}
		}
	}
	return out
}

// faces returns all valid interfaces with a P up to this one.
func faces(greatest int) []api.Face {
	var out []api.Face
	for p := 1; p <= greatest; p++ {
		for b := 1; b <= p; b++ {
			out = append(out, face(p, b))
		}
	}
	return out
}

// plain returns all lists of up to two tasks without sections, with a T of at most 5.
func plain() []tasks {
	var one tasks
	for p := 1; p <= 5; p++ {
		for d := 1; d <= p; d++ {
			for c := 1; c <= d; c++ {
				one = append(one, of(c, d, p)...)
			}
		}
	}
	return lists(one, 2)
}

// lists returns all lists of up to n of these tasks.
func lists(one tasks, n int) []tasks {
	out := []tasks{nil}
	for begin := 0; len(out[begin]) < n; begin++ {
		for _, x := range one {
			out = append(out, append(slices.Clone(out[begin]), x))
		}
	}
	return out
}

// locking returns all lists of up to three tasks with a D of 2, 4, 5 or 8 and sections of none, one or both of two resources.
func locking() []tasks {
	return lists(tasks{
		with(1, 2, 6), with(1, 2, 6, 0, 0, 1), with(1, 2, 12, 3, 0, 1),
		with(1, 4, 6, 0, 0, 1), with(2, 4, 4, 0, 0, 2), with(2, 4, 12, 3, 0, 1), with(3, 4, 12, 0, 0, 3, 3, 1, 1),
		with(1, 5, 12, 3, 0, 1), with(2, 5, 6, 0, 0, 1, 3, 1, 1),
		with(4, 8, 12, 0, 1, 3), with(3, 8, 8, 3, 0, 3, 0, 0, 2), with(1, 8, 24),
	}, 3)
}

// sections returns up to four sections by chance that a job of c ticks may have.
func sections(r *rand.Rand, c int) []api.Sec {
	x := api.Task{C: c, D: c, T: c}
	for range r.Intn(10) {
		s := api.Sec{Res: r.Intn(api.MaxRes), At: r.Intn(c)}
		s.Len = 1 + r.Intn(c-s.At)
		longer := x
		longer.Secs = append(slices.Clone(x.Secs), s)
		if task.Right(longer) {
			x = longer
		}
	}
	return x.Secs
}

// A system is tasks and an interface.
type system struct {
	l tasks
	f api.Face
}

// mixed returns systems by chance, with up to eight tasks; some have sections, and some an end above MaxBound.
func mixed(n int) []system {
	r := rand.New(rand.NewSource(10))
	periods := [][]int{{1, 2, 3, 4, 6, 12}, {5, 8, 10, 16, 20, 40, 80}, {6, 9, 12, 18, 24, 36, 72}, {25, 40, 50, 100, 200}, {3, 7, 21, 42, 63, 126}, {60, 72, 80, 90, 120, 144, 180}, {7, 11, 13, 17, 50}}
	var out []system
	for range n {
		set := periods[r.Intn(len(periods))]
		p := set[r.Intn(len(set))]
		s := system{f: face(p, 1+max(r.Intn(p), r.Intn(p)))}
		for range r.Intn(api.MaxTasks + 1) {
			x := api.Task{T: set[r.Intn(len(set))]}
			x.D = 1 + max(r.Intn(x.T), r.Intn(x.T))
			x.C = 1 + min(r.Intn(x.D), r.Intn(x.D), r.Intn(x.D), r.Intn(1+x.D/6))
			if r.Intn(3) > 0 {
				x.Secs = sections(r, x.C)
			}
			s.l = append(s.l, x)
		}
		out = append(out, s)
	}
	return out
}

// times returns numbers of ticks: each D and T and those beside them, the limits, and the ends of int.
func times(l tasks) []int {
	out := []int{math.MinInt, math.MinInt + 1, -most - 1, -most, -200, -2, -1, 0, 1, 2, 199, 200, 201, 1000, 3000, 3001, 1 << 31, 1 << 59, 1 << 60, 1 << 61, most - 1, most, most + 1, math.MaxInt - 1, math.MaxInt}
	for _, x := range l {
		for by := -1; by <= 1; by++ {
			out = append(out, x.D+by, x.T+by, x.T+x.D+by, 7*x.T+x.D+by)
		}
	}
	slices.Sort(out)
	return slices.Compact(out)
}

// blocked returns three tasks, whose blocking is 0, 4, 7 and 0 from 0, 5, 9 and 20 on.
func blocked() tasks {
	return tasks{with(5, 9, 10, 1, 0, 5, 0, 1, 4), with(2, 5, 8, 0, 1, 1), with(10, 20, 40, 1, 0, 7, 2, 7, 3, 0, 9, 1)}
}

// P10.1: below, at and above each D and each T.
func TestNeed(t *testing.T) {
	rows := []struct {
		l    tasks
		want map[int]int
	}{
		{nil, map[int]int{0: 0, 1: 0, 200: 0, most - 1: 0, most: 0}},
		{of(2, 4, 6), map[int]int{0: 0, 3: 0, 4: 2, 5: 2, 6: 2, 7: 2, 9: 2, 10: 4, 11: 4, 15: 4, 16: 6}},
		{of(1, 1, 1), map[int]int{0: 0, 1: 1, 2: 2, 1000: 1000, most - 1: most - 1, most: most}},
		{of(200, 200, 200), map[int]int{0: 0, 199: 0, 200: 200, 201: 200, 399: 200, 400: 400}},
		{of(2, 4, 6, 1, 3, 3), map[int]int{2: 0, 3: 1, 4: 3, 5: 3, 6: 4, 9: 5, 10: 7}},
		{blocked(), map[int]int{0: 0, 1: 0, 4: 0, 5: 6, 6: 6, 7: 6, 8: 6, 9: 14, 10: 14, 11: 14, 12: 14, 13: 16, 18: 16, 19: 21, 20: 24, 21: 26, 22: 26}},
		{blocked()[1:], map[int]int{4: 0, 5: 3, 12: 3, 13: 5, 19: 5, 20: 14, 21: 16}},
		{blocked()[:2], map[int]int{4: 0, 5: 6, 8: 6, 9: 7, 12: 7, 13: 9}},
		{tasks{with(1, 1, 200, 2, 0, 1), with(200, 200, 200, 2, 0, 200)}, map[int]int{0: 0, 1: 201, 199: 201, 200: 201, 201: 202, 400: 402, 401: 403}},
		{tasks{with(3, 4, 8, 0, 0, 3), with(2, 8, 8, 1, 0, 2)}, map[int]int{3: 0, 4: 3, 7: 3, 8: 5}},
	}
	for _, r := range rows {
		for at, want := range r.want {
			checkNeed(t, r.l, at, want, api.OK)
		}
	}
}

// P10.1: sums at MaxNum and one above it, without and with sections, and such as wrap round.
func TestNeedThatIsTooLarge(t *testing.T) {
	ones := func(n int) tasks { return slices.Repeat(of(1, 1, 1), n) }
	halves := tasks{with(1, 1, 2, 0, 0, 1), with(1, 2, 2, 0, 0, 1)}
	rows := []struct {
		l        tasks
		at, want int
		err      api.Errno
	}{
		{ones(1), most, most, api.OK}, {of(1, 1, 2, 1, 2, 2), most, most, api.OK}, {of(1, 2, 2, 1, 2, 2), most, most - 1, api.OK}, {of(1, 1, 2, 1, 1, 2), most, 0, api.ErrLarge}, {of(1, 1, 2, 1, 1, 2), most - 1, most - 1, api.OK},
		{halves, most, most, api.OK}, {halves, most - 1, most - 1, api.OK}, {append(halves, with(2, 2, 200, 0, 0, 2)), most, 0, api.ErrLarge}, {append(halves, halves...), most, 0, api.ErrLarge}, {append(halves, halves...), 1<<61 - 1, 1<<62 - 2, api.OK}, {append(halves, halves...), 1 << 61, 0, api.ErrLarge},
		{ones(3), most / 3, most, api.OK}, {ones(3), most/3 + 1, 0, api.ErrLarge}, {ones(3), most, 0, api.ErrLarge}, {ones(4), most, 0, api.ErrLarge}, {ones(5), most, 0, api.ErrLarge}, {ones(8), 1<<59 - 1, 1<<62 - 8, api.OK}, {ones(8), 1 << 59, 0, api.ErrLarge}, {ones(8), most, 0, api.ErrLarge},
		// A t that is too large, and tasks that are not valid, are named first.
		{ones(8), most + 1, 0, api.ErrArg}, {ones(9), most, 0, api.ErrArg}, {append(ones(5), wrong()[0]), most, 0, api.ErrArg}, {ones(9), most + 1, 0, api.ErrArg}, {ones(9), -1, 0, api.ErrArg},
	}
	for _, r := range rows {
		checkNeed(t, r.l, r.at, r.want, r.err)
	}
}

// P10.1: all edges of many lists, with sections and without.
func TestNeedAsDescribed(t *testing.T) {
	count := map[api.Errno]int{}
	all := append(locking(), plain()...)
	for _, s := range mixed(400) {
		all = append(all, s.l)
	}
	for _, l := range append(all, wrong(), slices.Repeat(of(1, 1, 1), 9), nil, tasks{}, blocked()) {
		for _, at := range times(l) {
			want, err := modelNeed(l, at)
			checkNeed(t, l, at, want, err)
			count[err]++
		}
	}
	if count[api.OK] < 1000 || count[api.ErrArg] < 1000 || count[api.ErrLarge] < 1000 {
		t.Errorf("too few cases of one kind: %v", count)
	}
}

// P10.1: a cycle that is P, one that is a T, and one that is greater than all; the greatest D below 2 * P, equal to it and above it.
func TestCycle(t *testing.T) {
	rows := []struct {
		l          tasks
		f          api.Face
		cycle, end int
	}{
		{nil, face(1, 1), 1, 3}, {nil, face(9, 1), 9, 27}, {nil, face(9, 9), 9, 27}, {nil, face(200, 1), 200, 600}, {tasks{}, face(7, 3), 7, 21},
		{of(1, 1, 1), face(1, 1), 1, 3}, {of(1, 1, 2), face(1, 1), 2, 4}, {of(1, 2, 2), face(1, 1), 2, 4}, {of(1, 3, 3), face(1, 1), 3, 6},
		{of(1, 2, 2, 1, 3, 3), face(12, 5), 12, 36}, {of(1, 3, 6, 1, 4, 4), face(12, 12), 12, 36}, {of(1, 4, 4), face(2, 1), 4, 8}, {of(1, 12, 12, 1, 6, 6), face(4, 1), 12, 24}, {of(1, 6, 6, 1, 12, 12), face(3, 1), 12, 24},
		{of(1, 4, 4), face(6, 1), 12, 24}, {of(1, 4, 4, 1, 6, 6), face(9, 1), 36, 54}, {of(1, 40, 40, 1, 6, 6), face(9, 1), 360, 400}, {of(1, 7, 7), face(5, 1), 35, 45}, {of(1, 4, 4, 1, 3, 3, 1, 5, 5), face(7, 1), 420, 434},
		{of(1, 13, 28), face(7, 1), 28, 42}, {of(1, 14, 28), face(7, 1), 28, 42}, {of(1, 15, 28), face(7, 1), 28, 43}, {of(1, 28, 28), face(7, 1), 28, 56},
		{of(1, 15, 28, 1, 3, 4), face(7, 1), 28, 43}, {of(1, 3, 4, 1, 15, 28), face(7, 1), 28, 43}, {of(1, 3, 4, 1, 15, 28, 1, 13, 14), face(7, 7), 28, 43}, {of(15, 15, 28), face(7, 1), 28, 43},
		{of(1, 200, 200), face(200, 1), 200, 600}, {of(1, 1, 200), face(200, 200), 200, 600}, {of(1, 200, 200), face(100, 1), 200, 400}, {of(1, 200, 200), face(50, 1), 200, 400}, {of(1, 199, 200), face(100, 1), 200, 400},
		{slices.Repeat(of(1, 10, 30), 8), face(4, 1), 60, 70}, {tasks{with(5, 11, 30, 0, 0, 5)}, face(5, 1), 30, 41},
	}
	for _, r := range rows {
		checkCycle(t, r.l, r.f, r.cycle, r.end, api.OK)
	}
}

// P10.1: an end at MaxBound and just above it, by the greatest D, by 2 * P, and by the cycle.
func TestTheEndAtMaxBound(t *testing.T) {
	rows := []struct {
		l     tasks
		f     api.Face
		cycle int
		end   int
	}{
		{of(1, 149, 190, 1, 9, 150), face(1, 1), 2850, 2999}, {of(1, 150, 190, 1, 9, 150), face(1, 1), 2850, 3000}, {of(1, 151, 190, 1, 9, 150), face(1, 1), 2850, 3001}, {of(1, 190, 190, 1, 9, 150), face(1, 1), 2850, 3040},
		{of(1, 9, 190, 1, 149, 150), face(75, 1), 2850, 3000}, {of(1, 9, 190, 1, 150, 150), face(75, 1), 2850, 3000}, {of(1, 151, 190, 1, 150, 150), face(75, 75), 2850, 3001}, {of(1, 9, 190, 1, 9, 75), face(150, 1), 2850, 3150},
		{of(1, 200, 200, 1, 112, 112), face(1, 1), 2800, 3000}, {of(1, 200, 200, 1, 112, 112), face(100, 50), 2800, 3000}, {of(1, 200, 200, 1, 112, 112), face(112, 50), 2800, 3024},
		{of(1, 108, 108, 1, 100, 100), face(150, 70), 2700, 3000}, {of(1, 104, 104), face(200, 199), 2600, 3000}, {of(1, 104, 104, 1, 200, 200), face(200, 1), 2600, 3000},
		{of(1, 34, 34), face(158, 1), 2686, 3002}, {of(1, 77, 77), face(38, 1), 2926, 3003}, {of(1, 76, 77), face(38, 1), 2926, 3002}, {of(1, 75, 77), face(38, 1), 2926, 3002}, {of(1, 74, 77), face(38, 38), 2926, 3002},
		{of(1, 30, 55), face(54, 1), 2970, 3078}, {of(1, 2, 54), face(15, 1), 270, 300}, {of(1, 30, 54, 1, 3, 55), face(15, 1), 2970, 3000}, {of(1, 30, 54, 1, 31, 55), face(15, 1), 2970, 3001}, {of(1, 5, 125, 1, 6, 24), face(3, 3), 3000, 3006},
		{of(1, 1, 107, 1, 2, 28), face(1, 1), 2996, 2998}, {of(1, 4, 107, 1, 2, 28), face(1, 1), 2996, 3000}, {of(1, 5, 107, 1, 2, 28), face(1, 1), 2996, 3001}, {of(1, 1, 107, 1, 2, 28), face(2, 1), 2996, 3000}, {of(1, 1, 107, 1, 2, 28), face(4, 1), 2996, 3004},
	}
	for _, r := range rows {
		if r.end > 3000 {
			checkError(t, r.l, r.f, api.ErrLarge)
			continue
		}
		checkCycle(t, r.l, r.f, r.cycle, r.end, api.OK)
		_, _, err := verdict.First(r.l, r.f)
		_, e := verdict.Fits(r.l, r.f)
		if err != api.OK || e != api.OK {
			t.Errorf("%v, %+v: First: %d, Fits: %d", r.l, r.f, err, e)
		}
	}
}

// P10.1: cycles far above MaxBound, above MaxNum, and such as wrap round.
func TestCycleThatIsFarTooLarge(t *testing.T) {
	primes := []int{199, 197, 193, 191, 181, 179, 173, 167, 163}
	for n := 2; n <= api.MaxTasks; n++ {
		var l tasks
		for _, p := range primes[:n] {
			l = append(l, of(1, p, p)...)
		}
		for _, p := range []int{1, 199, primes[n], 163, 2, 200} {
			checkError(t, l, face(p, 1), api.ErrLarge)
			checkError(t, l, face(p, p), api.ErrLarge)
		}
		slices.Reverse(l)
		checkError(t, append(of(1, 1, 1)[:1:1], l[:min(7, n)]...), face(3, 2), api.ErrLarge)
	}
	checkError(t, of(1, 1, 199), face(197, 197), api.ErrLarge)
	checkError(t, of(1, 1, 128, 1, 1, 125, 1, 1, 81, 1, 1, 49, 1, 1, 121, 1, 1, 169, 1, 1, 17, 1, 1, 19), face(23, 1), api.ErrLarge)
}

// P10.1: many systems, of which some have an end that is too large.
func TestCycleAsDescribed(t *testing.T) {
	r := rand.New(rand.NewSource(101))
	all := mixed(1500)
	for range 1500 {
		s := system{f: face(1+r.Intn(60), 1)}
		for range r.Intn(4) {
			p := 1 + r.Intn(api.MaxTime)
			s.l = append(s.l, of(1, 1+r.Intn(p), p)...)
		}
		all = append(all, s)
	}
	count := map[api.Errno]int{}
	for _, s := range all {
		cycle, end, err := modelCycle(s.l, s.f)
		checkCycle(t, s.l, s.f, cycle, end, err)
		if count[err]++; err != api.OK {
			checkError(t, s.l, s.f, err)
		}
	}
	if count[api.OK] < 1000 || count[api.ErrLarge] < 300 {
		t.Errorf("too few cases of one kind: %v", count)
	}
}

// P10.2: a sum that is equal to the supply, and one that is one above it, at the first tick, in the middle, and at the cycle.
func TestFirst(t *testing.T) {
	short, long := with(3, 4, 8, 0, 0, 1), with(2, 8, 8, 0, 0, 2)
	rows := []struct {
		l     tasks
		f     api.Face
		first int
	}{
		{nil, face(1, 1), -1}, {nil, face(9, 1), -1}, {nil, face(200, 1), -1}, {tasks{}, face(200, 200), -1},
		{of(1, 1, 1), face(1, 1), -1}, {of(1, 1, 1), face(200, 200), -1}, {of(1, 1, 1, 1, 200, 200), face(1, 1), 200}, {of(1, 1, 1), face(2, 1), 1}, {of(1, 1, 200), face(200, 199), 1}, {of(1, 1, 1, 1, 1, 1), face(1, 1), 1}, {of(1, 1, 200), face(1, 1), -1},
		{of(1, 4, 4), face(2, 1), -1}, {of(1, 4, 4), face(4, 1), 4}, {of(1, 4, 4), face(4, 2), 4}, {of(1, 4, 4), face(4, 3), -1}, {of(1, 3, 4), face(2, 1), -1}, {of(1, 2, 4), face(2, 1), 2}, {of(2, 4, 4), face(2, 1), 4}, {of(2, 5, 5), face(2, 1), -1},
		// The sum is equal to the supply for many ticks, and then one above it, at the cycle (6, 200 and 30) or near it.
		{of(1, 2, 2, 1, 2, 2), face(1, 1), -1}, {of(1, 2, 2, 2, 3, 3), face(1, 1), 6}, {of(1, 2, 2, 1, 3, 3, 1, 6, 6), face(1, 1), -1}, {of(1, 2, 2, 1, 3, 3, 2, 6, 6), face(1, 1), 6}, {of(199, 199, 200, 1, 199, 200), face(1, 1), 199}, {of(199, 199, 200, 1, 200, 200), face(1, 1), -1}, {of(199, 199, 200, 2, 200, 200), face(1, 1), 200},
		{of(1, 2, 2, 1, 3, 3, 1, 7, 7), face(1, 1), -1}, {of(1, 2, 2, 1, 3, 3, 2, 7, 7), face(1, 1), 14}, {of(1, 2, 2, 1, 3, 3, 1, 5, 5), face(1, 1), 30}, {of(1, 2, 4, 1, 3, 4, 1, 4, 4, 1, 4, 4), face(4, 4), -1}, {of(1, 2, 4, 1, 3, 4, 1, 4, 4, 2, 4, 4), face(4, 4), 4},
		// By blocking alone.
		{tasks{short, long}, face(1, 1), 4}, {tasks{long, short}, face(1, 1), 4}, {tasks{short, with(2, 8, 8, 0, 0, 1)}, face(1, 1), -1}, {tasks{short, with(2, 8, 8, 1, 0, 2)}, face(1, 1), -1}, {tasks{with(3, 5, 8, 0, 0, 1), long}, face(1, 1), -1}, {tasks{with(3, 4, 8, 0, 0, 3), long}, face(1, 1), 4}, {tasks{with(3, 4, 8), long}, face(1, 1), -1},
		{tasks{with(2, 4, 4), with(2, 8, 8, 0, 0, 2)}, face(1, 1), -1}, {tasks{with(1, 1, 200, 2, 0, 1), with(2, 200, 200, 2, 0, 1)}, face(1, 1), 1}, {tasks{with(1, 2, 200, 2, 0, 1), with(2, 200, 200, 2, 0, 1)}, face(1, 1), -1},
		// At a tick at which another task's D is, for that brings no demand of its own; and behind the greatest D.
		{tasks{with(1, 3, 20, 0, 0, 1), with(1, 6, 20, 1, 0, 1), with(6, 9, 20, 0, 0, 1, 1, 1, 5)}, face(1, 1), 6}, {tasks{with(1, 3, 20, 0, 0, 1), with(1, 6, 20, 1, 0, 1), with(5, 9, 20, 0, 0, 1, 1, 1, 4)}, face(1, 1), -1}, {of(3, 6, 10, 4, 9, 14), face(4, 3), 9}, {of(2, 6, 10, 4, 9, 14), face(4, 3), -1}, {of(3, 7, 7, 4, 10, 14), face(6, 5), -1}, {of(3, 7, 7, 5, 10, 14), face(6, 5), 10},
	}
	for _, r := range rows {
		checkFirst(t, r.l, r.f, r.first)
	}
}

// checkSystem checks Fits and First beside the models: First up to the end, and Fits for all ticks up to this many ends.
func checkSystem(t *testing.T, given supplies, s system, ends int) (fits bool) {
	t.Helper()
	cycle, end, err := modelCycle(s.l, s.f)
	if err != api.OK {
		t.Fatalf("%+v: the model's error %d", s, err)
	}
	first := given.modelFirst(s.l, s.f, ends*end+1)
	// The D are at most the T, so the first tick is not even above the cycle.
	if first < 0 && overloaded(s.l, s.f) || first > cycle {
		t.Errorf("%+v: the cycle is %d, the end %d, the first tick %d", s, cycle, end, first)
	}
	checkFirst(t, s.l, s.f, first)
	return first < 0
}

// counted keeps how many systems fit, and how many don't.
type counted map[bool]int

// enough checks that both kinds are there.
func (c counted) enough(t *testing.T, n int) {
	t.Helper()
	if c[true] < n || c[false] < n {
		t.Errorf("too few cases of one kind: %v", c)
	}
}

// P10.2, P10.3: all systems of up to two small tasks without sections; a tick for which they don't fit is never behind the end alone.
func TestSmallSystems(t *testing.T) {
	given, count := supplies{}, counted{}
	for _, l := range plain() {
		for _, f := range faces(5) {
			count[checkSystem(t, given, system{l, f}, 4)]++
		}
	}
	count.enough(t, 2000)
}

// P10.2, P10.3: three small tasks with sections.
func TestSystemsWithSections(t *testing.T) {
	given, count := supplies{}, counted{}
	changed := 0
	for _, l := range locking() {
		for _, f := range []api.Face{face(1, 1), face(2, 1), face(3, 2), face(4, 3), face(6, 5), face(8, 7)} {
			fits := checkSystem(t, given, system{l, f}, 3)
			count[fits]++
			bare := slices.Clone(l)
			for i := range bare {
				bare[i].Secs = nil
			}
			if !fits && given.modelFirst(bare, f, 200) < 0 {
				changed++
			}
		}
	}
	count.enough(t, 1000)
	if changed < 300 {
		t.Errorf("too few systems that do not fit by blocking alone: %d", changed)
	}
}

// P10.2, P10.3: up to eight tasks with sections, by chance, with ends up to MaxBound.
func TestSystemsByChance(t *testing.T) {
	given, count := supplies{}, counted{}
	for _, s := range mixed(2500) {
		if _, _, err := modelCycle(s.l, s.f); err == api.OK {
			count[checkSystem(t, given, s, 3)]++
		}
	}
	count.enough(t, 300)
}

// P10.2: tasks that need just as many ticks as there are, and one more, at each tick that can be a D.
func TestTheFirstTickIsAnyTick(t *testing.T) {
	for d := 1; d <= api.MaxTime; d++ {
		checkFirst(t, of(d, d, 200), face(1, 1), -1)
		checkFirst(t, of(1, d, 200), face(1, 1), -1)
		checkFirst(t, slices.Repeat(of(d, d, 200), 2), face(1, 1), d)
		if d > 1 {
			checkFirst(t, of(d-1, d, 200, 1, d, 200), face(2, 2), -1)
			checkFirst(t, of(d-1, d, 200, 2, d, 200), face(2, 2), d)
			checkFirst(t, of(d, d, 200), face(200, 199), d)
			checkFirst(t, of(d-1, d-1, 200, 2, d, 200), face(1, 1), d)
		}
	}
}

// boolean returns 1 for true.
func boolean(held bool) int {
	if held {
		return 1
	}
	return 0
}

// P10.3: what is equal to the supply at the end fits; what is one above it there does not, and is found before.
func TestTheSumAtTheEnd(t *testing.T) {
	given := supplies{}
	equal, above := 0, 0
	all := mixed(2500)
	for _, l := range plain() {
		for _, f := range faces(4) {
			all = append(all, system{l, f})
		}
	}
	for _, s := range all {
		_, end, err := modelCycle(s.l, s.f)
		if err != api.OK {
			continue
		}
		need, e := verdict.Need(s.l, end)
		supplied, _ := supply.Bound(s.f, end)
		fits, _ := verdict.Fits(s.l, s.f)
		switch {
		case e == api.OK && need == supplied && fits:
			equal++
			checkFirst(t, s.l, s.f, -1)
		case e == api.OK && need == supplied+1:
			above++
			first := given.modelFirst(s.l, s.f, end)
			if first < 0 {
				t.Errorf("%+v: no tick below the end %d", s, end)
			}
			checkFirst(t, s.l, s.f, first)
		}
	}
	if equal < 20 || above < 20 {
		t.Errorf("too few cases of one kind: %d equal, %d above", equal, above)
	}
}

// far returns ticks far behind the end, for one tick up to the end.
func far(cycle, at int) []int {
	var out []int
	for _, k := range []int{1, 2, 3, 1000, 1<<20 + 1, 1 << 40, (most-at)/cycle - 1, (most - at) / cycle} {
		out = append(out, at+k*cycle)
	}
	return out
}

// exceeds reports whether tasks need more for t than the interface provides; a sum above MaxNum is more than any supply.
func exceeds(t *testing.T, s system, at int) bool {
	t.Helper()
	supplied, err := supply.Bound(s.f, at)
	need, e := verdict.Need(s.l, at)
	if err != api.OK || e != api.OK && e != api.ErrLarge {
		t.Fatalf("%+v: for %d the errors are %d and %d", s, at, err, e)
	}
	return e == api.ErrLarge || need > supplied
}

// P10.3: tasks that fit are checked at ticks up to MaxNum; of those that don't, such as require more than the supply, or just as much, exceed it however far behind the end.
func TestFarBehindTheEnd(t *testing.T) {
	all := mixed(600)
	for _, l := range append(plain()[:400], locking()[:900]...) {
		for _, f := range []api.Face{face(1, 1), face(2, 1), face(3, 2), face(5, 4)} {
			all = append(all, system{l, f})
		}
	}
	count, late := counted{}, 0
	for n, s := range all {
		cycle, end, err := verdict.Cycle(s.l, s.f)
		if err != api.OK {
			continue
		}
		fits, _ := verdict.Fits(s.l, s.f)
		first, found, _ := verdict.First(s.l, s.f)
		if count[fits]++; fits == found || found && !exceeds(t, s, first) {
			t.Errorf("%+v: Fits: %v, First: %d, %v", s, fits, first, found)
		}
		for _, at := range []int{0, 1, n % end, first, end - 1, end} {
			for _, later := range far(cycle, at) {
				if fits && exceeds(t, s, later) {
					t.Errorf("%+v fits, but not for %d", s, later)
				}
			}
		}
		if !overloaded(s.l, s.f) {
			continue
		}
		late++
		for _, later := range far(cycle, 0) {
			if fits || !exceeds(t, s, later) {
				t.Errorf("%+v: %v, and for %d more is required than provided", s, fits, later)
			}
		}
	}
	count.enough(t, 500)
	if late < 500 {
		t.Errorf("too few systems that require too much: %d", late)
	}
}

// P10.3: tasks that require all that is provided, and in each cycle too early: they don't fit at a tick of each one, up to MaxNum.
func TestTooEarlyInEachCycle(t *testing.T) {
	rows := []struct {
		s     system
		first int
	}{
		{system{of(1, 1, 2), face(2, 1)}, 1}, {system{of(1, 2, 2), face(2, 1)}, 2}, {system{of(2, 4, 4), face(4, 2)}, 4}, {system{of(3, 7, 10, 4, 6, 20), face(2, 1)}, 6}, {system{of(100, 100, 200), face(2, 1)}, 100}, {system{of(1, 4, 4, 1, 4, 4), face(2, 1)}, 4},
	}
	for _, r := range rows {
		checkFirst(t, r.s.l, r.s.f, r.first)
		cycle, _, _ := verdict.Cycle(r.s.l, r.s.f)
		for _, at := range far(cycle, r.first) {
			if !exceeds(t, r.s, at) {
				t.Errorf("%+v: the cycle is %d, and for %d no more is required than provided", r.s, cycle, at)
			}
		}
	}
	for _, r := range []system{{of(1, 1, 1), face(1, 1)}, {of(100, 200, 200), face(1, 1)}, {of(1, 3, 3), face(2, 1)}, {of(1, 2, 2, 1, 3, 3, 1, 6, 6), face(1, 1)}} {
		checkFirst(t, r.l, r.f, -1)
		cycle, _, _ := verdict.Cycle(r.l, r.f)
		for at := range 3 * cycle {
			for _, later := range far(cycle, at) {
				if exceeds(t, r, later) {
					t.Errorf("%+v fits, but not for %d", r, later)
				}
			}
		}
	}
}

// without returns the lists with a task less.
func without(l tasks) []tasks {
	var out []tasks
	for i := range l {
		out = append(out, slices.Delete(slices.Clone(l), i, i+1))
	}
	return out
}

// changed returns the list with another C and T of task i.
func changed(l tasks, i, c, t int) tasks {
	out := slices.Clone(l)
	out[i].C, out[i].T = c, t
	return out
}

// slower returns the lists with a greater T of one task.
func slower(l tasks) []tasks {
	var out []tasks
	for i, x := range l {
		for _, t := range []int{x.T + 1, x.T + 2, x.T + 3, 2 * x.T, 3 * x.T, 199, 200} {
			if x.T < t && t <= api.MaxTime {
				out = append(out, changed(l, i, x.C, t))
			}
		}
	}
	return out
}

// loose returns systems without sections: all small ones, and some by chance.
func loose() []system {
	var out []system
	for _, l := range plain() {
		for _, f := range []api.Face{face(1, 1), face(2, 1), face(3, 2), face(4, 3), face(5, 2), face(5, 4)} {
			out = append(out, system{l, f})
		}
	}
	for _, s := range mixed(1200) {
		for i := range s.l {
			s.l[i].Secs = nil
		}
		out = append(out, s)
	}
	return out
}

// checkStillFits checks that these tasks fit; an error is permitted where the end may be greater than it was.
func checkStillFits(t *testing.T, s system, l tasks, f api.Face, permitted api.Errno) bool {
	t.Helper()
	fits, err := verdict.Fits(l, f)
	if !fits && (err == api.OK || err != permitted) {
		t.Errorf("%+v fits, but %v, %+v: %v, %d", s, l, f, fits, err)
	}
	return fits
}

// P10.4: tasks that fit still do with a task less, with a smaller C, with a greater T, and with a greater B.
func TestLessStillFits(t *testing.T) {
	count := map[string]int{}
	for _, s := range loose() {
		if fits, _ := verdict.Fits(s.l, s.f); !fits {
			continue
		}
		for _, l := range without(s.l) {
			count["less"] += boolean(checkStillFits(t, s, l, s.f, api.OK))
		}
		for i, x := range s.l {
			for c := 1; c < x.C; c++ {
				count["C"] += boolean(checkStillFits(t, s, changed(s.l, i, c, x.T), s.f, api.OK))
			}
			checkError(t, changed(s.l, i, 0, x.T), s.f, api.ErrArg)
		}
		for _, l := range slower(s.l) {
			if fits := checkStillFits(t, s, l, s.f, api.ErrLarge); fits {
				count["T"]++
			} else {
				count["error"]++
			}
		}
		for b := s.f.B + 1; b <= s.f.P; b++ {
			count["B"] += boolean(checkStillFits(t, s, s.l, face(s.f.P, b), api.OK))
		}
	}
	for _, kind := range []string{"less", "C", "T", "error", "B"} {
		if count[kind] < 500 {
			t.Errorf("too few cases of one kind: %v", count)
		}
	}
}

// P10.4: just enough, and one tick more or less of each.
func TestJustEnough(t *testing.T) {
	rows := []struct {
		l     tasks
		f     api.Face
		first int
	}{
		{of(3, 10, 10, 4, 12, 15), face(5, 4), -1}, {of(3, 10, 10, 5, 12, 15), face(5, 4), -1}, {of(3, 10, 10, 6, 12, 15), face(5, 4), 12}, {of(3, 10, 10, 6, 12, 15), face(5, 5), -1}, {of(3, 10, 10, 5, 12, 15), face(5, 3), 12}, {of(3, 10, 10), face(5, 3), -1}, {of(6, 12, 15), face(5, 3), -1}, {of(3, 10, 10, 3, 10, 10, 6, 12, 15), face(5, 4), 12},
		{of(5, 10, 10, 8, 20, 20), face(1, 1), -1}, {of(5, 10, 10, 10, 20, 20), face(1, 1), -1}, {of(5, 10, 10, 11, 20, 20), face(1, 1), 20}, {of(5, 10, 11, 11, 20, 20), face(1, 1), 120}, {of(5, 10, 12, 11, 20, 20), face(1, 1), -1}, {of(5, 10, 10, 10, 20, 20, 1, 20, 20), face(1, 1), 20}, {of(5, 10, 9), face(1, 1), math.MinInt}, {of(5, 10, 10, 10, 20, 20), face(20, 19), 20},
	}
	for _, r := range rows {
		if r.first == math.MinInt {
			checkError(t, r.l, r.f, api.ErrArg)
			continue
		}
		checkFirst(t, r.l, r.f, r.first)
	}
}

// P10.1, P10.2: one task that is not valid, at any place, of one to nine tasks; with valid interfaces and with others.
func TestTasksThatAreNotValid(t *testing.T) {
	for _, x := range wrong() {
		if task.Right(x) {
			t.Fatalf("%v is valid", x)
		}
		for n := 1; n <= api.MaxTasks+1; n++ {
			for place := range n {
				l := slices.Repeat(of(1, 40, 60), n)
				l[place] = x
				for _, at := range []int{-1, 0, 4, 1000, most, most + 1} {
					checkNeed(t, l, at, 0, api.ErrArg)
				}
				for _, f := range []api.Face{face(1, 1), face(60, 30), face(197, 1), {}, face(0, 1), face(5, 6), face(201, 1)} {
					checkError(t, l, f, api.ErrArg)
				}
			}
		}
	}
}

// P10.1, P10.2: with valid tasks, with no task, with such as have an end that is too large, and with others.
func TestFacesThatAreNotValid(t *testing.T) {
	large := of(1, 199, 199, 1, 197, 197, 1, 193, 193)
	for _, f := range wrongFaces() {
		if supply.Right(f) {
			t.Fatalf("%+v is valid", f)
		}
		for _, l := range []tasks{nil, {}, of(1, 4, 4), blocked(), large, slices.Repeat(of(1, 1, 1), 9), wrong(), wrong()[:1]} {
			checkError(t, l, f, api.ErrArg)
		}
	}
	checkError(t, large, face(5, 5), api.ErrLarge)
}

// P10.1, P10.2: from no task to one more than there may be, and far more.
func TestTheNumberOfTasks(t *testing.T) {
	for _, n := range []int{0, 1, 2, 3, 4, 5, 6, 7, 8, 9, 10, 16, 1000} {
		l := slices.Repeat(of(1, 5, 6), n)
		if n > api.MaxTasks {
			checkNeed(t, l, 5, 0, api.ErrArg)
			checkError(t, l, face(3, 3), api.ErrArg)
			continue
		}
		checkNeed(t, l, 5, n, api.OK)
		checkNeed(t, l, 11, 2*n, api.OK)
		cycle, end, first := 6, 12, -1
		if n == 0 {
			cycle, end = 3, 9
		}
		if n > 5 {
			first = 5
		}
		checkCycle(t, l, face(3, 3), cycle, end, api.OK)
		checkFirst(t, l, face(3, 3), first)
	}
}

// The examples of the chapter and of the whole.
func TestExample(t *testing.T) {
	l := of(1, 4, 4)
	checkFirst(t, l, face(2, 1), -1)
	checkFirst(t, l, face(4, 1), 4)
	checkFirst(t, l, face(4, 2), 4)
	checkFirst(t, l, face(4, 3), -1)
}

// results returns what all the calls return.
func results(s system, at int) []int {
	need, err := verdict.Need(s.l, at)
	cycle, end, e := verdict.Cycle(s.l, s.f)
	out := []int{need, int(err), cycle, end, int(e)}
	fits, err := verdict.Fits(s.l, s.f)
	first, found, e := verdict.First(s.l, s.f)
	return append(out, boolean(fits), int(err), first, boolean(found), int(e))
}

// copied returns the tasks with their sections in new memory, with others behind the sections and behind the tasks; and that memory, as a whole.
func copied(l tasks) (tasks, tasks) {
	whole := make(tasks, 0, len(l)+2)
	for _, x := range append(slices.Clip(l), with(2, 3, 4, 1, 0, 2), with(1, 2, 3, 0, 0, 1)) {
		x.Secs = append(append(make([]api.Sec, 0, len(x.Secs)+1), x.Secs...), api.Sec{Res: 2, At: 1, Len: 5})[:len(x.Secs)]
		whole = append(whole, x)
	}
	return whole[:len(l)], whole
}

// equal reports whether two lists of tasks, made by copied, are equal, with what is behind their sections.
func equal(a, b tasks) bool {
	return slices.EqualFunc(a, b, func(x, y api.Task) bool {
		return task.Same(x, y) && slices.Equal(x.Secs[:cap(x.Secs)], y.Secs[:cap(y.Secs)])
	})
}

// some returns systems, valid and not.
func some() []system {
	out := mixed(150)
	for _, l := range append(locking()[:300], nil, blocked(), slices.Repeat(blocked(), 2), slices.Repeat(blocked(), 3)) {
		out = append(out, system{l, face(4, 3)}, system{l, face(1, 1)})
	}
	for n, x := range wrong() {
		out = append(out, system{tasks{x}, face(4, 3)}, system{append(blocked(), x), face(4, 3)}, system{blocked(), wrongFaces()[n]})
	}
	return out
}

// R3: no call changes the tasks, their sections, or what lies behind these.
func TestArgumentsDoNotChange(t *testing.T) {
	for _, s := range some() {
		given, memory := copied(s.l)
		_, before := copied(s.l)
		for _, at := range []int{-1, 0, 4, 5, 20, most} {
			if got, want := results(system{given, s.f}, at), results(s, at); !slices.Equal(got, want) {
				t.Errorf("the results of %+v with others behind: %v, want %v", s, got, want)
			}
		}
		if !equal(memory, before) {
			t.Errorf("a call changed its arguments: %v to %v", before, memory)
		}
	}
}

// R3, R4: no call keeps what it is given: after other calls, and after a change in the same memory, the results are those of new memory.
func TestNothingIsKept(t *testing.T) {
	all := some()
	memory, secs := make(tasks, 16), make([]api.Sec, 100)
	for n, s := range all {
		want := results(s, 7)
		results(all[(n+1)%len(all)], 7)
		given, space := memory[:copy(memory, s.l)], secs
		for k := range given {
			m := copy(space, given[k].Secs)
			given[k].Secs, space = space[:m], space[m:]
		}
		for range 2 {
			if got := results(system{given, s.f}, 7); !slices.Equal(got, want) {
				t.Errorf("the results of %+v: %v, and before %v", s, got, want)
			}
		}
	}
}

// R3: a nil list and an empty one are the same.
func TestNoListAndAnEmptyOne(t *testing.T) {
	for _, f := range append(wrongFaces(), faces(6)...) {
		for _, at := range times(nil) {
			want := results(system{nil, f}, at)
			for _, l := range []tasks{{}, make(tasks, 0, 3), blocked()[:0], blocked()[3:]} {
				if got := results(system{l, f}, at); !slices.Equal(got, want) {
					t.Errorf("%+v, %d: no list: %v, an empty one: %v", f, at, want, got)
				}
			}
		}
	}
	for _, s := range some() {
		empty := slices.Clone(s.l)
		for k := range empty {
			if len(empty[k].Secs) == 0 {
				empty[k].Secs = []api.Sec{}
			}
		}
		if a, b := results(s, 7), results(system{empty, s.f}, 7); !slices.Equal(a, b) {
			t.Errorf("%+v: %v, and with empty lists: %v", s, a, b)
		}
	}
}

// R1: any structs, the ends of int, and lists far beyond the limits.
func TestEveryCallReturns(t *testing.T) {
	ends := []int{math.MinInt, -1, 0, 1, 2, 200, most, math.MaxInt}
	for _, a := range ends {
		for _, b := range ends {
			for _, c := range ends {
				x := with(a, b, c, a, b, c, c, a, b)
				for _, l := range []tasks{{x}, {with(1, 5, 6, 0, 0, 1), x, with(3, 9, 12, 0, 0, 3)}, of(a, b, c), of(1, 5, 6, a, b, c), of(1, a, b, 2, 8, 9)} {
					cycle, end, err := modelCycle(l, face(b, c))
					checkCycle(t, l, face(b, c), cycle, end, err)
					want, err := modelNeed(l, a)
					checkNeed(t, l, a, want, err)
					results(system{l, face(c, a)}, b)
					results(system{l, face(3, 2)}, c)
				}
			}
		}
	}
	for _, l := range []tasks{make(tasks, 1<<12), slices.Repeat(blocked(), 1<<10), {with(9, 12, 20), {C: 9, D: 12, T: 20, Secs: make([]api.Sec, 1<<16)}}} {
		checkNeed(t, l, 12, 0, api.ErrArg)
		checkError(t, l, face(3, 2), api.ErrArg)
	}
	eight := slices.Repeat(tasks{with(200, 200, 200, 0, 0, 200, 1, 0, 200, 2, 0, 200, 3, 0, 200)}, 8)
	checkNeed(t, eight, most, 0, api.ErrLarge)
	checkFirst(t, eight, face(200, 200), 200)
	checkFirst(t, eight[:1], face(200, 200), -1)
}
