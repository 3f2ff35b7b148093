package face_test

import (
	"math"
	"math/big"
	"math/rand"
	"slices"
	"testing"

	"remontoir/api"
	"remontoir/face"
	"remontoir/supply"
	"remontoir/task"
	"remontoir/verdict"
)

type tasks = []api.Task

// of returns tasks without sections, of the numbers taken in threes: C, D, T.
func of(n ...int) tasks {
	var l tasks
	for i := 0; i+2 < len(n); i += 3 {
		l = append(l, api.Task{C: n[i], D: n[i+1], T: n[i+2]})
	}
	return l
}

// with returns a task with sections, of the numbers taken in threes: Res, At, Len.
func with(c, d, t int, n ...int) api.Task {
	x := api.Task{C: c, D: d, T: t}
	for i := 0; i+2 < len(n); i += 3 {
		x.Secs = append(x.Secs, api.Sec{Res: n[i], At: n[i+1], Len: n[i+2]})
	}
	return x
}

// An answer is all that a call returns.
type answer struct {
	f   api.Face
	err api.Errno
}

// found returns the answer with an interface.
func found(p, b int) answer { return answer{f: api.Face{P: p, B: b}} }

// The answers with an error: all else is zero.
var (
	notValid = answer{err: api.ErrArg}
	tooLarge = answer{err: api.ErrLarge}
	denied   = answer{err: api.ErrDeny}
)

// least returns the answer of Least.
func least(l tasks, p int) answer {
	f, err := face.Least(l, p)
	return answer{f, err}
}

// best returns the answer of Best.
func best(l tasks, most int) answer {
	f, err := face.Best(l, most)
	return answer{f, err}
}

// checkLeast checks one call of Least.
func checkLeast(t *testing.T, l tasks, p int, want answer) {
	t.Helper()
	if got := least(l, p); got != want {
		t.Errorf("Least(%v, %d): %+v, want %+v", l, p, got, want)
	}
}

// checkBest checks one call of Best.
func checkBest(t *testing.T, l tasks, most int, want answer) {
	t.Helper()
	if got := best(l, most); got != want {
		t.Errorf("Best(%v, %d): %+v, want %+v", l, most, got, want)
	}
}

// blocking is the document's word: it looks at each section of each later task beside each section of each earlier one.
func blocking(l tasks, t int) int {
	longest := 0
	for _, later := range l {
		for _, earlier := range l {
			if later.D <= t || earlier.D > t {
				continue
			}
			for _, s := range later.Secs {
				for _, other := range earlier.Secs {
					if s.Res == other.Res {
						longest = max(longest, s.Len)
					}
				}
			}
		}
	}
	return longest
}

// needs returns, for each t below n, the sum of demand and blocking: it lets each job count from its deadline on.
func needs(l tasks, n int) []int {
	rise := make([]int, n)
	for _, x := range l {
		for at := x.D; at < n; at += x.T {
			rise[at] += x.C
		}
	}
	out, sum := make([]int, n), 0
	for t := range n {
		sum += rise[t]
		out[t] = sum
		if t <= api.MaxTime {
			out[t] += blocking(l, t)
		}
	}
	return out
}

// provided is the document's word for the bound of the supply: of each period that n of the t ticks are in, all ticks but these may be provided. It tries all ticks of a period as the first one.
func provided(f api.Face, t int) int {
	among := func(n int) int { return max(0, f.B-(f.P-n)) }
	fewest := math.MaxInt
	for from := range f.P {
		first := min(f.P-from, t)
		rest := t - first
		fewest = min(fewest, among(first)+rest/f.P*f.B+among(rest%f.P))
	}
	return fewest
}

// A model answers by the document's words; it keeps what each interface provides, from 0 on.
type model map[api.Face][]int

// below returns what f provides for each t below n.
func (m model) below(f api.Face, n int) []int {
	for t := len(m[f]); t < n; t++ {
		m[f] = append(m[f], provided(f, t))
	}
	return m[f][:n]
}

// sufficient reports whether f provides what is needed, at each tick of need.
func (m model) sufficient(need []int, f api.Face) bool {
	given := m.below(f, len(need))
	for t, n := range need {
		if n > given[t] {
			return false
		}
	}
	return true
}

// theEnd returns the end of the tasks and an interface with this P; false, if it is above MaxBound. It tries the numbers one after the other.
func theEnd(l tasks, p int) (int, bool) {
	behind := 2 * p
	for _, x := range l {
		behind = max(behind, x.D)
	}
	for n := p; n+behind <= 3000; n += p {
		if !slices.ContainsFunc(l, func(x api.Task) bool { return n%x.T != 0 }) {
			return n + behind, true
		}
	}
	return 0, false
}

// least is the document's word: it tries all B, from 1 on.
func (m model) least(l tasks, p int) answer {
	if !task.All(l) || p < 1 || p > 200 {
		return notValid
	}
	end, small := theEnd(l, p)
	if !small {
		return tooLarge
	}
	need := needs(l, end+1)
	for b := 1; b <= p; b++ {
		if m.sufficient(need, api.Face{P: p, B: b}) {
			return found(p, b)
		}
	}
	return denied
}

// pick is the document's word for Best: of these answers of Least, the one of which no other is better.
func pick(answers []answer) answer {
	for _, a := range answers {
		better := func(b answer) bool {
			if b.err != api.OK {
				return false
			}
			mine, others := a.f.B*b.f.P, b.f.B*a.f.P
			return others < mine || others == mine && b.f.P > a.f.P
		}
		if a.err == api.OK && !slices.ContainsFunc(answers, better) {
			return a
		}
	}
	return denied
}

// least24 returns the model's answers for all P from 1 to 24.
func (m model) least24(l tasks) []answer {
	var out []answer
	for p := 1; p <= 24; p++ {
		out = append(out, m.least(l, p))
	}
	return out
}

// wrong returns tasks that are not valid.
func wrong() tasks {
	return append(of(0, 0, 0, 0, 5, 9, -1, 5, 9, 6, 5, 9, 1, 10, 9, 1, 5, 201, 1, 201, 201, 201, 201, 201, 1, 0, 9, 1, -5, 9, 1, 1, 0,
		math.MinInt, math.MinInt, math.MinInt, math.MaxInt, math.MaxInt, math.MaxInt, 1, math.MaxInt, 9, 1, math.MinInt, 9, 1, 5, math.MaxInt, math.MinInt, 5, 9),
		with(3, 5, 9, 4, 0, 1), with(3, 5, 9, -1, 0, 1), with(3, 5, 9, 1, 0, 4), with(3, 5, 9, 1, 2, 0), with(3, 5, 9, 1, -1, 2), with(3, 5, 9, 1, 1, math.MaxInt),
		with(3, 5, 9, 1, 0, 2, 1, 1, 1), with(3, 5, 9, 0, 0, 2, 1, 1, 2), with(9, 9, 9, 0, 0, 1, 1, 1, 1, 2, 2, 1, 3, 3, 1, 0, 4, 1))
}

// outside returns numbers that are below 1 or above the greatest one.
func outside(greatest int) []int {
	return []int{math.MinInt, math.MinInt + 1, -api.MaxNum, -201, -200, -24, -2, -1, 0, greatest + 1, greatest + 2, 2 * greatest, 1 << 31, 1 << 32, 1<<32 + 1, api.MaxNum, math.MaxInt - 1, math.MaxInt}
}

// one returns all tasks without sections, with a T of at most n.
func one(n int) tasks {
	var l tasks
	for p := 1; p <= n; p++ {
		for d := 1; d <= p; d++ {
			for c := 1; c <= d; c++ {
				l = append(l, of(c, d, p)...)
			}
		}
	}
	return l
}

// plain returns no task, all single tasks with a T of at most 8, and all pairs of those with a T of at most 4.
func plain() []tasks {
	out := []tasks{nil}
	for _, x := range one(8) {
		out = append(out, tasks{x})
	}
	for _, x := range one(4) {
		for _, y := range one(4) {
			out = append(out, tasks{x, y})
		}
	}
	return out
}

// sections returns up to four sections by chance that a job of c ticks may have.
func sections(r *rand.Rand, c int) []api.Sec {
	x := api.Task{C: c, D: c, T: c}
	for range r.Intn(8) {
		s := api.Sec{Res: r.Intn(api.MaxRes), At: r.Intn(c)}
		s.Len = 1 + r.Intn(c-s.At)
		longer := x
		longer.Secs = append(slices.Clone(x.Secs), s)
		if task.Right(longer) {
			x = longer
		}
	}
	return x.Secs
}

// A request is what Least is given.
type request struct {
	l tasks
	p int
}

// mixed returns requests by chance, with up to eight tasks; some have sections, some an end above MaxBound, and for some no B is sufficient.
func mixed(seed int64, n int) []request {
	r := rand.New(rand.NewSource(seed))
	periods := [][]int{{1, 2, 3, 4, 6, 12}, {5, 8, 10, 16, 20, 40, 80}, {6, 9, 12, 18, 24, 36, 72}, {25, 40, 50, 100, 200}, {3, 7, 21, 42, 63, 126}, {60, 72, 80, 90, 120, 144, 180}, {7, 11, 13, 17, 50}}
	var out []request
	for range n {
		set := periods[r.Intn(len(periods))]
		q := request{p: set[r.Intn(len(set))]}
		for range r.Intn(api.MaxTasks + 1) {
			x := api.Task{T: set[r.Intn(len(set))]}
			x.D = 1 + max(r.Intn(x.T), r.Intn(x.T))
			x.C = 1 + min(r.Intn(x.D), r.Intn(x.D), r.Intn(1+x.D/6))
			if r.Intn(3) > 0 {
				x.Secs = sections(r, x.C)
			}
			q.l = append(q.l, x)
		}
		out = append(out, q)
	}
	return out
}

// blocked returns two tasks of which the second blocks the first.
func blocked() tasks {
	return tasks{with(1, 5, 10, 0, 0, 1), with(3, 10, 10, 0, 0, 3)}
}

// The examples of the chapter and of the whole.
func TestExample(t *testing.T) {
	checkLeast(t, of(1, 4, 4), 2, found(2, 1))
	checkLeast(t, of(1, 4, 4), 4, found(4, 3))
	checkBest(t, of(1, 4, 4), 4, found(2, 1))
}

// P11.1: a smallest B that is 1, that is p, and that lies between; by the demand, by the blocking, and by what is required in a cycle.
func TestLeast(t *testing.T) {
	later := tasks{with(3, 4, 8, 0, 0, 1), with(2, 8, 8, 0, 0, 1)}
	rows := []struct {
		l tasks
		b map[int]int // by p
	}{
		{nil, map[int]int{1: 1, 2: 1, 24: 1, 25: 1, 199: 1, 200: 1}},
		{of(1, 1, 1), map[int]int{1: 1, 2: 2, 3: 3, 24: 24, 199: 199, 200: 200}},
		{of(1, 1, 200), map[int]int{1: 1, 2: 2, 100: 100, 200: 200}},
		{of(1, 4, 4), map[int]int{1: 1, 2: 1, 3: 2, 4: 3, 5: 4, 6: 5, 8: 7, 200: 199}},
		{of(1, 2, 2), map[int]int{1: 1, 2: 2, 3: 3, 200: 200}},
		{of(1, 3, 3), map[int]int{1: 1, 2: 1, 3: 2, 4: 3}},
		{of(1, 200, 200), map[int]int{1: 1, 2: 1, 50: 1, 100: 1, 200: 101}},
		{of(100, 200, 200), map[int]int{1: 1, 2: 2, 200: 150}},
		{of(2, 6, 6), map[int]int{1: 1, 2: 1, 3: 2, 4: 2, 5: 3, 6: 4}},
		{of(2, 2, 3), map[int]int{1: 1, 2: 2, 3: 3}},
		{of(3, 5, 10, 1, 10, 10), map[int]int{1: 1, 2: 2, 4: 3, 5: 4, 10: 9}},
		{blocked(), map[int]int{1: 1, 2: 2, 5: 5, 10: 10}},
		{of(1, 5, 10, 3, 10, 10), map[int]int{1: 1, 2: 1, 5: 3, 10: 8}},
		{tasks{with(1, 5, 10, 0, 0, 1), with(3, 10, 10, 0, 1, 2)}, map[int]int{1: 1, 5: 4, 10: 9}},
		{later, map[int]int{1: 1, 2: 2, 4: 4, 8: 8}},
	}
	for _, r := range rows {
		for p, b := range r.b {
			checkLeast(t, r.l, p, found(p, b))
		}
	}
}

// P11.1: a B of 1, one that is p, and each that lies between, for p from 1 to MaxTime.
func TestLeastOfEachPeriod(t *testing.T) {
	for p := 1; p <= api.MaxTime; p++ {
		checkLeast(t, nil, p, found(p, 1))
		checkLeast(t, of(1, 1, 1), p, found(p, p))
		// Within p ticks, those that f provides may all lie behind twice the ticks that it doesn't: P - 2 * (P - B) is the bound.
		for b := p/2 + 1; b <= p; b++ {
			checkLeast(t, of(2*b-p, p, p), p, found(p, b))
		}
		if p > 1 {
			checkLeast(t, of(p-1, p, p), p, found(p, p))
		}
	}
}

// P11.1: p below 1, at 1, at MaxTime and just above it, and at the ends of int, beside tasks that are valid and others; that p is not valid is named ahead of all else.
func TestPeriodsThatAreNotValid(t *testing.T) {
	over, large := of(4, 4, 4, 1, 4, 4), of(1, 199, 199, 1, 197, 197)
	for _, l := range []tasks{nil, {}, of(1, 4, 4), of(1, 1, 1), of(1, 200, 200), over, large, blocked(), wrong(), wrong()[:1], slices.Repeat(of(1, 8, 8), 9)} {
		for _, p := range outside(api.MaxTime) {
			checkLeast(t, l, p, notValid)
		}
	}
	checkLeast(t, nil, 1, found(1, 1))
	checkLeast(t, nil, 200, found(200, 1))
	checkLeast(t, of(1, 100, 100), 200, found(200, 151))
	checkLeast(t, over, 1, denied)
	checkLeast(t, over, 200, denied)
	checkLeast(t, large, 1, tooLarge)
	checkLeast(t, large, 200, tooLarge)
}

// P11.2: most below 1, at 1, at 24 and just above it, and at the ends of int, beside tasks that are valid and others.
func TestMostThatIsNotValid(t *testing.T) {
	over, large := of(4, 4, 4, 1, 4, 4), of(1, 199, 199, 1, 197, 197)
	for _, l := range []tasks{nil, {}, of(1, 4, 4), of(1, 1, 1), of(1, 200, 200), over, large, blocked(), wrong(), wrong()[:1], slices.Repeat(of(1, 8, 8), 9)} {
		for _, most := range append(outside(24), 199, 200, 201) {
			checkBest(t, l, most, notValid)
		}
	}
	checkBest(t, nil, 1, found(1, 1))
	checkBest(t, nil, 24, found(24, 1))
	checkBest(t, of(1, 4, 4), 1, found(1, 1))
	checkBest(t, of(1, 4, 4), 24, found(2, 1))
	checkBest(t, over, 1, denied)
	checkBest(t, over, 24, denied)
	checkBest(t, large, 1, denied)
	checkBest(t, large, 24, denied)
}

// P11.1, P11.2: one task that is not valid, at any place, of one to nine tasks; with a p that is valid, and with others.
func TestTasksThatAreNotValid(t *testing.T) {
	for _, x := range wrong() {
		if task.Right(x) {
			t.Fatalf("%v is valid", x)
		}
		for n := 1; n <= api.MaxTasks+1; n++ {
			for place := range n {
				l := slices.Repeat(of(1, 40, 60), n)
				l[place] = x
				for _, p := range []int{-1, 0, 1, 2, 24, 25, 60, 197, 200, 201} {
					checkLeast(t, l, p, notValid)
					checkBest(t, l, p, notValid)
				}
			}
		}
	}
}

// P11.1, P11.2: from no task to one more than there may be, and far more.
func TestTheNumberOfTasks(t *testing.T) {
	for n, b := range []int{1, 3, 3, 4, 4, 5, 6, 6, 7} {
		checkLeast(t, slices.Repeat(of(1, 10, 12), n), 7, found(7, b))
	}
	for _, n := range []int{9, 10, 16, 1000, 1 << 14} {
		checkLeast(t, slices.Repeat(of(1, 190, 190), n), 1, notValid)
		checkBest(t, slices.Repeat(of(1, 190, 190), n), 24, notValid)
	}
	checkLeast(t, slices.Repeat(of(1, 8, 8), 8), 1, found(1, 1))
	checkLeast(t, slices.Repeat(of(1, 7, 8), 8), 1, denied)
	checkBest(t, slices.Repeat(of(1, 8, 8), 8), 24, found(24, 24))
}

// P11.1: a p with which verdict.Fits returns ErrLarge, and those beside it with which it does not; the end at MaxBound and just above it, by the greatest D, by 2 * P, and by the cycle.
func TestEndsThatAreTooLarge(t *testing.T) {
	rows := []struct {
		l           tasks
		small, high []int
	}{
		{of(1, 199, 199), []int{1, 2, 13, 14, 199}, []int{15, 16, 100, 197, 198, 200}},
		{of(1, 197, 197), []int{14, 197}, []int{15, 16, 196, 198, 199}},
		{of(1, 45, 197), []int{14, 15, 197}, []int{16, 17, 196, 198}}, {of(1, 46, 197), []int{14, 197}, []int{15, 16}},
		{of(1, 180, 180), []int{13, 14, 15, 16, 18, 20, 21, 22, 24, 180, 200}, []int{17, 19, 23, 179, 181, 199}},
		{of(1, 3, 81, 1, 2, 111), []int{1}, []int{2, 3, 4, 81, 111}}, {of(1, 4, 81, 1, 2, 111), nil, []int{1, 2, 3, 4, 81, 111}},
		{of(1, 4, 107, 1, 2, 28), []int{1, 2}, []int{3, 4, 7, 14, 28, 107}}, {of(1, 5, 107, 1, 2, 28), nil, []int{1, 2, 3, 4, 28}},
		{of(1, 30, 54, 1, 3, 55), []int{1, 2, 3, 5, 6, 9, 10, 11, 15}, []int{4, 18, 27, 54, 55, 7, 8, 16, 200}}, {of(1, 30, 54, 1, 31, 55), nil, []int{1, 2, 3, 15}},
		{of(1, 75, 77), []int{1, 7, 35, 36, 37, 77}, []int{38, 39, 40, 76, 78}},
		{of(1, 199, 199, 1, 197, 197, 1, 193, 193), nil, []int{1, 2, 193, 199, 200}},
		{nil, []int{1, 23, 200}, nil}, {of(1, 200, 200), []int{100, 200}, []int{99, 101, 198, 199}},
	}
	for _, r := range rows {
		for _, p := range r.small {
			if got := least(r.l, p); got.err != api.OK || got.f.P != p {
				t.Errorf("Least(%v, %d): %+v", r.l, p, got)
			}
		}
		for _, p := range r.high {
			checkLeast(t, r.l, p, tooLarge)
			// It is named ahead of ErrDeny: these tasks require more than there is.
			over := slices.Concat(r.l, r.l[:1])
			over[0].C, over[len(r.l)].C = over[0].D, over[0].D
			checkLeast(t, over, p, tooLarge)
			if _, err := verdict.Fits(r.l, api.Face{P: p, B: p}); err != api.ErrLarge {
				t.Errorf("%v, %d: the error of Fits is %d", r.l, p, err)
			}
		}
	}
}

// P11.1: tasks for which no B is sufficient, and such as need the last tick.
func TestDenied(t *testing.T) {
	rows := []struct {
		full, over tasks
	}{
		{of(1, 1, 1), of(1, 1, 1, 1, 200, 200)}, {of(4, 4, 4), of(4, 4, 4, 1, 4, 4)}, {of(1, 2, 2, 1, 2, 2), of(1, 2, 2, 2, 3, 3)}, {of(1, 2, 2, 1, 3, 3, 1, 6, 6), of(1, 2, 2, 1, 3, 3, 2, 6, 6)},
		{of(5, 10, 10, 10, 20, 20), of(5, 10, 10, 11, 20, 20)}, {of(2, 2, 200), of(2, 2, 200, 1, 2, 200)}, {of(3, 4, 200, 1, 4, 200), of(3, 4, 200, 2, 4, 200)}, {of(200, 200, 200), slices.Repeat(of(200, 200, 200), 2)}, {slices.Repeat(of(25, 200, 200), 8), slices.Repeat(of(25, 199, 200), 8)},
		{tasks{with(3, 4, 8, 0, 0, 1), with(2, 8, 8, 0, 0, 1)}, tasks{with(3, 4, 8, 0, 0, 1), with(2, 8, 8, 0, 0, 2)}},
		{tasks{with(1, 2, 200, 2, 0, 1), with(2, 200, 200, 2, 0, 1)}, tasks{with(1, 1, 200, 2, 0, 1), with(2, 200, 200, 2, 0, 1)}},
		{blocked(), tasks{with(1, 3, 10, 0, 0, 1), blocked()[1]}},
	}
	for _, r := range rows {
		for _, p := range []int{1, 2, 3, 4, 5, 6, 8, 10, 200} {
			if got := least(r.full, p); got.err != api.OK && got.err != api.ErrLarge {
				t.Errorf("Least(%v, %d): %+v", r.full, p, got)
			}
			if got := least(r.over, p); got != denied && got != tooLarge {
				t.Errorf("Least(%v, %d): %+v", r.over, p, got)
			}
		}
		checkLeast(t, r.full, 1, found(1, 1))
		checkLeast(t, r.over, 1, denied)
		checkLeast(t, r.over, 2, denied)
		checkBest(t, r.full, 1, found(1, 1))
		for most := 1; most <= 24; most++ {
			checkBest(t, r.over, most, denied)
		}
	}
}

// kind names what a request asks of Least: an error, or where the smallest B lies.
func kind(a answer) string {
	switch {
	case a.err != api.OK:
		return [...]string{api.ErrArg: "not valid", api.ErrLarge: "too large", api.ErrDeny: "denied"}[a.err]
	case a.f.P == 1:
		return "of 1"
	case a.f.B == 1:
		return "first"
	case a.f.B == a.f.P:
		return "last"
	}
	return "between"
}

// requests returns many requests: all small ones, and some by chance.
func requests() []request {
	out := mixed(11, 2000)
	for _, l := range plain() {
		for p := 1; p <= 9; p++ {
			out = append(out, request{l, p})
		}
	}
	for n, x := range slices.Concat(wrong(), of(1, 4, 4)) {
		out = append(out, request{tasks{x}, 4}, request{append(blocked(), x), 5}, request{blocked(), outside(200)[n%18]})
	}
	return out
}

// P11.1: many requests beside the model, with sections and without.
func TestLeastAsDescribed(t *testing.T) {
	m, count := model{}, map[string]int{}
	for _, q := range requests() {
		want := m.least(q.l, q.p)
		checkLeast(t, q.l, q.p, want)
		count[kind(want)]++
	}
	for _, k := range []string{"not valid", "too large", "denied", "of 1", "first", "last", "between"} {
		if count[k] < 30 {
			t.Errorf("too few cases of one kind: %v", count)
		}
	}
}

// checkExact checks an interface that Least or Best has returned: those with fewer ticks are not sufficient, it is, and so are those with more, for all ticks up to several ends and for some far behind.
func checkExact(t *testing.T, m model, l tasks, f api.Face) {
	t.Helper()
	if f.B < 1 || f.B > f.P {
		t.Fatalf("%v: %+v is not valid", l, f)
	}
	end, _ := theEnd(l, f.P)
	need, longer := needs(l, end+1), needs(l, 3*end)
	for b := 1; b <= f.P; b++ {
		other := api.Face{P: f.P, B: b}
		want := b >= f.B
		if fits, err := verdict.Fits(l, other); fits != want || err != api.OK {
			t.Errorf("%v: %+v is returned, and with %d it is %v, %d", l, f, b, fits, err)
		}
		if m.sufficient(need, other) != want || want && !m.sufficient(longer, other) {
			t.Errorf("%v: %+v is returned, and with %d it provides less than is required, or enough, up to %d", l, f, b, end)
		}
	}
	for _, at := range []int{1 << 20, 1<<31 + 7, 1 << 40, 1<<60 - 1, api.MaxNum - 1, api.MaxNum} {
		required, err := verdict.Need(l, at)
		given, _ := supply.Bound(f, at)
		if err != api.OK || required > given {
			t.Errorf("%v: %+v provides %d for %d, and %d are required", l, f, given, at, required)
		}
	}
	if fits, err := verdict.Fits(l, api.Face{P: f.P}); fits || err != api.ErrArg {
		t.Errorf("no tick of %d: %v, %d", f.P, fits, err)
	}
}

// P11.3: with one tick less in each period the interface is not sufficient, and with each number of ticks more up to p it is.
func TestOneTickLessAndMore(t *testing.T) {
	m, count := model{}, map[string]int{}
	for n, q := range requests() {
		got := least(q.l, q.p)
		if got.err == api.OK {
			count[kind(got)]++
			checkExact(t, m, q.l, got.f)
		}
		if n%20 != 0 {
			continue
		}
		if got := best(q.l, 1+n/20%24); got.err == api.OK {
			count["best"]++
			checkExact(t, m, q.l, got.f)
		}
	}
	for _, k := range []string{"of 1", "first", "last", "between", "best"} {
		if count[k] < 30 {
			t.Errorf("too few cases of one kind: %v", count)
		}
	}
}

// P11.4: for a single task B times T is not less than C times P; both are equal for a task that needs all ticks.
func TestOneTask(t *testing.T) {
	equal := 0
	for _, x := range one(20) {
		for p := 1; p <= 24; p++ {
			f, err := face.Least(tasks{x}, p)
			if err != api.OK || f.P != p || f.B*x.T < x.C*p {
				t.Errorf("Least(%v, %d): %+v, %d", x, p, f, err)
			}
			if f.B*x.T == x.C*p {
				equal++
			}
		}
		f, err := face.Best(tasks{x}, 24)
		if err != api.OK || f.B*x.T < x.C*f.P {
			t.Errorf("Best(%v): %+v, %d", x, f, err)
		}
	}
	if equal != 20*24 {
		t.Errorf("equal for %d", equal)
	}
	for c := 1; c <= 200; c++ {
		for _, p := range []int{1, 2, 5, 8, 50, 100, 200} {
			if f, err := face.Least(of(c, 200, 200), p); err != api.OK || f.B*200 < c*p {
				t.Errorf("C %d, P %d: %+v, %d", c, p, f, err)
			}
		}
	}
}

// relative returns the B of an interface relative to its P.
func relative(f api.Face) *big.Rat { return big.NewRat(int64(f.B), int64(f.P)) }

// P11.4: no interface provides less in a cycle than the tasks require.
func TestAllTasks(t *testing.T) {
	full := 0
	for _, q := range requests() {
		got := least(q.l, q.p)
		if got.err != api.OK {
			continue
		}
		sum := new(big.Rat)
		for _, x := range q.l {
			sum.Add(sum, big.NewRat(int64(x.C), int64(x.T)))
		}
		order := relative(got.f).Cmp(sum)
		if order < 0 {
			t.Errorf("Least(%v, %d): %+v, and %s is required", q.l, q.p, got.f, sum)
		}
		if order == 0 {
			full++
		}
	}
	if full < 30 {
		t.Errorf("too few that require all: %d", full)
	}
}

// A step is a most from which on, up to the next one, Best returns the same.
type step struct {
	most int
	want answer
}

// checkSteps checks Best for most from 1 to 24.
func checkSteps(t *testing.T, l tasks, steps []step) {
	t.Helper()
	for most := 1; most <= 24; most++ {
		if len(steps) > 1 && steps[1].most == most {
			steps = steps[1:]
		}
		checkBest(t, l, most, steps[0].want)
	}
}

// P11.2: of interfaces that are equal the one with the greatest P, at each most; and one that is better by the least.
func TestBest(t *testing.T) {
	checkSteps(t, of(1, 4, 4), []step{{1, found(1, 1)}, {2, found(2, 1)}})
	checkSteps(t, of(1, 3, 3), []step{{1, found(1, 1)}, {2, found(2, 1)}})
	checkSteps(t, of(2, 6, 6), []step{{1, found(1, 1)}, {2, found(2, 1)}, {4, found(4, 2)}})
	checkSteps(t, of(4, 8, 8), []step{{1, found(1, 1)}, {2, found(2, 2)}, {3, found(3, 2)}, {6, found(6, 4)}})
	checkSteps(t, of(5, 15, 15), []step{{1, found(1, 1)}, {2, found(2, 1)}, {4, found(4, 2)}, {6, found(6, 3)}, {10, found(10, 5)}})
	checkSteps(t, of(7, 21, 21), []step{{1, found(1, 1)}, {2, found(2, 1)}, {4, found(4, 2)}, {6, found(6, 3)}, {8, found(8, 4)}, {14, found(14, 7)}})
	checkSteps(t, of(22, 55, 55), []step{{1, found(1, 1)}, {2, found(2, 1)}, {4, found(4, 2)}, {6, found(6, 3)}, {8, found(8, 4)}, {10, found(10, 5)}, {12, found(12, 6)}, {16, found(16, 8)}, {22, found(22, 11)}})
	// 22 of 23 is less than 23 of 24 by the least, and so is 1 of 24 than 1 of 23: by 1 of 552.
	checkBest(t, of(22, 24, 24), 22, found(22, 22))
	checkBest(t, of(22, 24, 24), 23, found(23, 22))
	checkBest(t, of(22, 24, 24), 24, found(23, 22))
	checkLeast(t, of(22, 24, 24), 24, found(24, 23))
	checkBest(t, of(43, 46, 46), 24, found(23, 22))
	for most := 1; most <= 24; most++ {
		checkBest(t, nil, most, found(most, 1))
		checkBest(t, of(1, 47, 47), most, found(most, 1))
		checkBest(t, of(1, 48, 49), most, found(most, 1))
		checkBest(t, of(1, 1, 1), most, found(most, most))
		checkBest(t, of(1, 1, 24), most, found(most, most))
		checkBest(t, of(4, 4, 4), most, found(most, most))
	}
	checkBest(t, blocked(), 24, pick(model{}.least24(blocked())))
}

// P11.2: periods of which some are too large, in the middle, from some on, and all but one or two; or all; and beside these others that have no B.
func TestBestOfPeriodsThatAreTooLarge(t *testing.T) {
	gaps := []step{{17, found(16, 1)}, {18, found(18, 1)}, {19, found(18, 1)}, {20, found(20, 1)}, {21, found(21, 1)}, {22, found(22, 1)}, {23, found(22, 1)}, {24, found(24, 1)}}
	for most := 1; most <= 24; most++ {
		if most <= 16 {
			checkBest(t, of(1, 180, 180), most, found(most, 1))
		} else {
			checkBest(t, of(1, 180, 180), most, gaps[most-17].want)
		}
		checkBest(t, of(1, 199, 199), most, found(min(most, 14), 1))
		checkBest(t, of(1, 45, 197), most, found(min(most, 15), 1))
		checkBest(t, of(1, 3, 81, 1, 2, 111), most, found(1, 1))
		checkBest(t, of(1, 4, 81, 1, 2, 111), most, denied)
		checkBest(t, of(1, 4, 107, 1, 2, 28), most, found(min(most, 2), min(most, 2)))
		checkBest(t, of(1, 5, 107, 1, 2, 28), most, denied)
		checkBest(t, of(1, 199, 199, 1, 197, 197), most, denied)
		checkBest(t, of(180, 180, 180, 1, 180, 180), most, denied)
		checkBest(t, of(199, 199, 199, 1, 199, 199), most, denied)
		checkBest(t, of(3, 3, 81, 1, 2, 111), most, denied)
	}
	checkLeast(t, of(180, 180, 180, 1, 180, 180), 16, denied)
	checkLeast(t, of(180, 180, 180, 1, 180, 180), 17, tooLarge)
	checkLeast(t, of(180, 180, 180, 1, 180, 180), 18, denied)
	checkLeast(t, of(3, 3, 81, 1, 2, 111), 1, denied)
	checkLeast(t, of(3, 3, 81, 1, 2, 111), 2, tooLarge)
}

// P11.2: many tasks beside the model, each with all most; some have periods that are too large, or no B, and some several that are equal.
func TestBestAsDescribed(t *testing.T) {
	m, count := model{}, map[string]int{}
	var all []tasks
	for n, l := range plain() {
		if n%5 == 0 {
			all = append(all, l)
		}
	}
	for _, q := range mixed(12, 500) {
		all = append(all, q.l)
	}
	for _, l := range all {
		answers := m.least24(l)
		for p, want := range answers {
			checkLeast(t, l, p+1, want)
		}
		for most := 1; most <= 24; most++ {
			checkBest(t, l, most, pick(answers[:most]))
		}
		last := pick(answers)
		count[kinds(answers, last)]++
	}
	for _, k := range []string{"equal", "alone", "some too large", "all too large", "denied", "denied or too large"} {
		if count[k] < 5 {
			t.Errorf("too few cases of one kind: %v", count)
		}
	}
}

// kinds names what the answers of Least for P from 1 to 24 are, of which last is the best one.
func kinds(answers []answer, last answer) string {
	large := 0
	equal := 0
	for _, a := range answers {
		if a == tooLarge {
			large++
		}
		if a.err == api.OK && relative(a.f).Cmp(relative(last.f)) == 0 {
			equal++
		}
	}
	switch {
	case large == len(answers):
		return "all too large"
	case last == denied && large > 0:
		return "denied or too large"
	case last == denied:
		return "denied"
	case large > 0:
		return "some too large"
	case equal > 1:
		return "equal"
	}
	return "alone"
}

// results returns what both calls return, for some periods.
func results(l tasks) []answer {
	var out []answer
	for _, p := range []int{-1, 0, 1, 2, 5, 12, 25, 201} {
		out = append(out, least(l, p), best(l, min(p, 12)), best(l, p))
	}
	return out
}

// copied returns the tasks with their sections in new memory, with others behind the sections and behind the tasks; and that memory, as a whole.
func copied(l tasks) (tasks, tasks) {
	whole := make(tasks, 0, len(l)+2)
	for _, x := range append(slices.Clip(l), with(2, 3, 4, 1, 0, 2), with(1, 2, 3, 0, 0, 1)) {
		x.Secs = append(append(make([]api.Sec, 0, len(x.Secs)+1), x.Secs...), api.Sec{Res: 2, At: 1, Len: 5})[:len(x.Secs)]
		whole = append(whole, x)
	}
	return whole[:len(l)], whole
}

// equal reports whether two lists of tasks, made by copied, are equal, with what is behind their sections.
func equal(a, b tasks) bool {
	return slices.EqualFunc(a, b, func(x, y api.Task) bool {
		return task.Same(x, y) && slices.Equal(x.Secs[:cap(x.Secs)], y.Secs[:cap(y.Secs)])
	})
}

// some returns lists of tasks, valid and not.
func some() []tasks {
	out := []tasks{nil, blocked(), slices.Repeat(blocked(), 2), of(1, 4, 4), of(1, 199, 199, 1, 197, 197), of(4, 4, 4, 1, 4, 4), of(1, 47, 47)}
	for _, q := range mixed(13, 60) {
		out = append(out, q.l)
	}
	for _, x := range wrong() {
		out = append(out, tasks{x}, append(blocked(), x))
	}
	return out
}

// R3: no call changes the tasks, their sections, or what lies behind these.
func TestArgumentsDoNotChange(t *testing.T) {
	for _, l := range some() {
		given, memory := copied(l)
		_, before := copied(l)
		if got, want := results(given), results(l); !slices.Equal(got, want) {
			t.Errorf("the results of %+v with others behind: %v, want %v", l, got, want)
		}
		if !equal(memory, before) {
			t.Errorf("a call changed its arguments: %v to %v", before, memory)
		}
	}
}

// R3, R4: no call keeps what it is given: after other calls, and after a change in the same memory, the results are those of new memory.
func TestNothingIsKept(t *testing.T) {
	all := some()
	memory, secs := make(tasks, 16), make([]api.Sec, 100)
	for n, l := range all {
		want := results(l)
		results(all[(n+1)%len(all)])
		given, space := memory[:copy(memory, l)], secs
		for k := range given {
			m := copy(space, given[k].Secs)
			given[k].Secs, space = space[:m:m], space[m:]
		}
		for range 2 {
			if got := results(given); !slices.Equal(got, want) {
				t.Errorf("the results of %+v: %v, and before %v", l, got, want)
			}
		}
	}
}

// R3: a nil list and an empty one are the same.
func TestNoListAndAnEmptyOne(t *testing.T) {
	for _, l := range []tasks{{}, make(tasks, 0, 3), blocked()[:0], blocked()[2:], wrong()[:0]} {
		for p := -1; p <= 201; p++ {
			if a, b := least(nil, p), least(l, p); a != b {
				t.Errorf("Least for %d: no list: %v, an empty one: %v", p, a, b)
			}
			if a, b := best(nil, p), best(l, p); a != b {
				t.Errorf("Best for %d: no list: %v, an empty one: %v", p, a, b)
			}
		}
	}
	for _, l := range some() {
		empty := slices.Clone(l)
		for k := range empty {
			if len(empty[k].Secs) == 0 {
				empty[k].Secs = []api.Sec{}
			}
		}
		if a, b := results(l), results(empty); !slices.Equal(a, b) {
			t.Errorf("%+v: %v, and with empty lists: %v", l, a, b)
		}
	}
}

// R1: any structs, the ends of int, and lists far beyond the limits.
func TestEveryCallReturns(t *testing.T) {
	m := model{}
	ends := []int{math.MinInt, -1, 0, 1, 2, 200, api.MaxNum, math.MaxInt}
	for _, a := range ends {
		for _, b := range ends {
			for _, c := range ends {
				x := with(a, b, c, a, b, c, c, a, b)
				for _, l := range []tasks{{x}, {with(1, 5, 6, 0, 0, 1), x, with(3, 9, 12, 0, 0, 3)}, of(a, b, c), of(1, 5, 6, a, b, c), of(1, a, b, 2, 8, 9)} {
					checkLeast(t, l, c, m.least(l, c))
					checkLeast(t, l, 12, m.least(l, 12))
					if got := best(l, c); (c < 1 || c > 24 || !task.All(l)) && got != notValid {
						t.Errorf("Best(%v, %d): %v", l, c, got)
					}
					if got := best(l, 2); task.All(l) && got != pick([]answer{m.least(l, 1), m.least(l, 2)}) {
						t.Errorf("Best(%v, 2): %v", l, got)
					}
				}
			}
		}
	}
	for _, l := range []tasks{make(tasks, 1<<12), slices.Repeat(blocked(), 1<<10), {with(9, 12, 20), {C: 9, D: 12, T: 20, Secs: make([]api.Sec, 1<<16)}}} {
		checkLeast(t, l, 12, notValid)
		checkBest(t, l, 12, notValid)
	}
	eight := slices.Repeat(tasks{with(200, 200, 200, 0, 0, 200, 1, 0, 200, 2, 0, 200, 3, 0, 200)}, 8)
	checkLeast(t, eight, 200, denied)
	checkLeast(t, eight[:1], 200, found(200, 200))
	checkBest(t, eight[:1], 20, found(20, 20))
}
