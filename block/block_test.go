package block_test

import (
	"math"
	"math/rand"
	"slices"
	"testing"

	"remontoir/api"
	"remontoir/block"
	"remontoir/task"
)

type tasks = []api.Task

// with returns a task with this D, and sections one after the other; each is told by two numbers, its resource and its Len.
func with(d int, secs ...int) api.Task {
	t := api.Task{C: 1, D: d, T: 200}
	at := 0
	for i := 0; i+1 < len(secs); i += 2 {
		t.Secs = append(t.Secs, api.Sec{Res: secs[i], At: at, Len: secs[i+1]})
		at += secs[i+1]
	}
	t.C = max(1, at)
	return t
}

// due returns tasks with these D, which use nothing.
func due(ds ...int) tasks {
	var l tasks
	for _, d := range ds {
		l = append(l, with(d))
	}
	return l
}

// modelOf is the document's word: it looks for the greatest Len, from the greatest one down, by pairs of tasks.
func modelOf(l tasks, t int) (int, api.Errno) {
	if !task.All(l) {
		return 0, api.ErrArg
	}
	for n := api.MaxTime; n > 0; n-- {
		for _, later := range l {
			for _, earlier := range l {
				if earlier.D <= t && t < later.D && blocks(later, earlier, n) {
					return n, api.OK
				}
			}
		}
	}
	return 0, api.OK
}

// blocks reports whether a section of n ticks of one task has the resource of a section of the other one.
func blocks(later, earlier api.Task, n int) bool {
	for _, s := range later.Secs {
		for _, other := range earlier.Secs {
			if s.Len == n && s.Res == other.Res {
				return true
			}
		}
	}
	return false
}

// modelSteps is the document's word: the numbers that are the D of a task.
func modelSteps(l tasks) ([]int, api.Errno) {
	if !task.All(l) {
		return nil, api.ErrArg
	}
	var out []int
	for d := range api.MaxTime + 1 {
		for _, x := range l {
			if x.D == d {
				out = append(out, d)
				break
			}
		}
	}
	return out, api.OK
}

// checkOf checks one call of Of.
func checkOf(t *testing.T, l tasks, at, want int, err api.Errno) {
	t.Helper()
	if n, e := block.Of(l, at); n != want || e != err {
		t.Errorf("Of(%v, %d): %d, %d, want %d, %d", l, at, n, e, want, err)
	}
}

// checkSteps checks one call of Steps.
func checkSteps(t *testing.T, l tasks, want []int, err api.Errno) {
	t.Helper()
	if s, e := block.Steps(l); !slices.Equal(s, want) || e != err {
		t.Errorf("Steps(%v): %v, %d, want %v, %d", l, s, e, want, err)
	}
}

// wrong returns tasks that are not valid.
func wrong() tasks {
	return tasks{
		{}, {C: 0, D: 5, T: 9}, {C: -1, D: 5, T: 9}, {C: 6, D: 5, T: 9}, {C: 1, D: 10, T: 9}, {C: 1, D: 5, T: 201}, {C: 1, D: 201, T: 201}, {C: 1, D: 0, T: 9}, {C: 1, D: -5, T: 9},
		{C: math.MinInt, D: math.MinInt, T: math.MinInt}, {C: math.MaxInt, D: math.MaxInt, T: math.MaxInt}, {C: 1, D: math.MaxInt, T: 9}, {C: 1, D: math.MinInt, T: 9}, {C: 1, D: 5, T: math.MaxInt}, {C: math.MinInt, D: 5, T: 9},
		with(5, -1, 1), with(5, 4, 1), with(5, math.MinInt, 1), with(5, math.MaxInt, 1), with(5, 1, 1, 4, 1), with(9, 0, 1, 1, 1, 2, 1, 3, 1, 0, 1), with(9, 0, 10),
		{C: 3, D: 5, T: 9, Secs: []api.Sec{{Res: 0, At: 0, Len: 4}}}, {C: 3, D: 5, T: 9, Secs: []api.Sec{{Res: 0, At: 2, Len: 0}}}, {C: 3, D: 5, T: 9, Secs: []api.Sec{{Res: 0, At: -1, Len: 2}}}, {C: 3, D: 5, T: 9, Secs: []api.Sec{{Res: 0, At: 1, Len: math.MaxInt}}},
		{C: 3, D: 5, T: 9, Secs: []api.Sec{{Res: 0, At: 0, Len: 2}, {Res: 1, At: 1, Len: 2}}}, {C: 3, D: 5, T: 9, Secs: []api.Sec{{Res: 0, At: 0, Len: 2}, {Res: 0, At: 1, Len: 1}}}, {C: 3, D: 5, T: 9, Secs: []api.Sec{{Res: 1, At: 1, Len: 1}, {Res: 0, At: 0, Len: 1}}},
	}
}

// small returns all lists of up to three tasks with a D of 6, 7 or 8 and sections of 1 to 3 ticks of none, one or both of the resources 0 and 3.
func small() []tasks {
	var one tasks
	for d := 6; d <= 8; d++ {
		one = append(one, with(d), with(d, 0, 1), with(d, 0, 3), with(d, 3, 2), with(d, 3, 2, 0, 3), with(d, 0, 2, 3, 1, 0, 1))
	}
	out := []tasks{{}}
	for begin := 0; len(out[begin]) < 3; begin++ {
		for _, t := range one {
			out = append(out, append(slices.Clone(out[begin]), t))
		}
	}
	return out
}

// byChance returns a valid task with this D, some of whose sections may be within others.
func byChance(r *rand.Rand, d int) api.Task {
	t := api.Task{C: 1 + r.Intn(d), D: d, T: d + r.Intn(api.MaxTime+1-d)}
	for range r.Intn(12) {
		s := api.Sec{Res: r.Intn(api.MaxRes), At: r.Intn(t.C)}
		s.Len = 1 + r.Intn(t.C-s.At)
		longer := t
		longer.Secs = append(slices.Clone(t.Secs), s)
		if task.Right(longer) {
			t = longer
		}
	}
	return t
}

// mixed returns lists of up to nine tasks by chance, some of them with one that is not valid.
func mixed() []tasks {
	r := rand.New(rand.NewSource(8))
	var out []tasks
	for range 1200 {
		least, spread := []int{1, 5, 30}[r.Intn(3)], []int{1, 4, 20, 171}[r.Intn(4)]
		var l tasks
		for range r.Intn(10) {
			l = append(l, byChance(r, least+r.Intn(spread)))
		}
		if len(l) > 0 && r.Intn(8) == 0 {
			l[r.Intn(len(l))] = wrong()[r.Intn(len(wrong()))]
		}
		out = append(out, l)
	}
	return out
}

// four returns four tasks, whose blocking is 0, 2, 4, 9 and 0 from 0, 3, 10, 20 and 60 on.
func four() tasks {
	return tasks{with(20, 1, 4, 2, 6), with(3, 0, 1), with(60, 3, 20, 2, 9, 1, 3), with(10, 0, 2, 1, 5, 0, 1)}
}

// fourRows are the blocking of these four, below, at and above each D.
func fourRows() map[int]int {
	return map[int]int{math.MinInt: 0, -3: 0, -1: 0, 0: 0, 1: 0, 2: 0, 3: 2, 4: 2, 9: 2, 10: 4, 11: 4, 19: 4, 20: 9, 21: 9, 59: 9, 60: 0, 61: 0, 200: 0, 201: 0, math.MaxInt: 0}
}

// lists returns all of these, and others with the least and the greatest numbers.
func lists() []tasks {
	out := slices.Concat(small(), mixed())
	out = append(out, nil, four(), due(4, 6, 6), due(1), due(200), slices.Repeat(four(), 2), slices.Repeat(four(), 3))
	return append(out, tasks{with(1, 2, 1), with(200, 2, 200)}, tasks{with(200, 2, 200), with(199, 2, 199)}, tasks{with(1, 0, 1), with(1, 0, 1)})
}

// times returns numbers of ticks: the D of the tasks and those beside them, the limits, and the ends of int.
func times(l tasks) []int {
	out := []int{math.MinInt, math.MinInt + 1, -api.MaxNum, -201, -2, -1, 0, 1, 2, 199, 200, 201, 1000, 1 << 32, api.MaxNum, math.MaxInt - 1, math.MaxInt}
	for _, x := range l {
		out = append(out, x.D-1, x.D, x.D+1, -x.D, 2*x.D)
	}
	slices.Sort(out)
	return slices.Compact(out)
}

// P8.1
func TestOf(t *testing.T) {
	nested := api.Task{C: 9, D: 12, T: 12, Secs: []api.Sec{{Res: 0, At: 1, Len: 7}, {Res: 1, At: 1, Len: 4}, {Res: 2, At: 2, Len: 2}}}
	rows := []struct {
		l        tasks
		at, want int
	}{
		{nil, -1, 0}, {nil, 0, 0}, {nil, 7, 0},
		{due(4), 3, 0}, {due(4), 4, 0}, {due(4, 9), 3, 0}, {due(4, 9), 4, 0}, {due(4, 9), 9, 0},
		{tasks{with(4, 0, 3)}, 3, 0}, {tasks{with(4, 0, 3)}, 4, 0}, {tasks{with(4, 0, 3)}, 5, 0},
		{tasks{with(4, 0, 1), with(9, 0, 3)}, 3, 0}, {tasks{with(4, 0, 1), with(9, 0, 3)}, 4, 3}, {tasks{with(4, 0, 1), with(9, 0, 3)}, 8, 3}, {tasks{with(4, 0, 1), with(9, 0, 3)}, 9, 0},
		{tasks{with(9, 0, 3), with(4, 0, 1)}, 4, 3}, {tasks{with(9, 0, 1), with(4, 0, 3)}, 4, 1}, {tasks{with(9, 0, 1), with(4, 0, 3)}, 3, 0}, {tasks{with(9, 0, 1), with(4, 0, 3)}, 9, 0},
		{tasks{with(4, 0, 1), with(5, 0, 1)}, 3, 0}, {tasks{with(4, 0, 1), with(5, 0, 1)}, 4, 1}, {tasks{with(4, 0, 1), with(5, 0, 1)}, 5, 0},
		{tasks{with(4, 1, 1), nested}, 4, 4}, {tasks{with(4, 2, 1), nested}, 11, 2}, {tasks{with(4, 0, 1), nested}, 11, 7}, {tasks{with(4, 2, 1, 1, 1), nested}, 4, 4}, {tasks{with(4, 3, 1), nested}, 4, 0},
		{tasks{with(13, 2, 3, 1, 6, 0, 1), nested}, 12, 6}, {tasks{with(13, 3, 6), nested}, 12, 0},
		{tasks{with(1, 3, 1), with(200, 3, 200)}, 0, 0}, {tasks{with(1, 3, 1), with(200, 3, 200)}, 1, 200}, {tasks{with(1, 3, 1), with(200, 3, 200)}, 199, 200}, {tasks{with(1, 3, 1), with(200, 3, 200)}, 200, 0},
	}
	for _, r := range rows {
		checkOf(t, r.l, r.at, r.want, api.OK)
	}
	for at, want := range fourRows() {
		checkOf(t, four(), at, want, api.OK)
	}
}

// P8.1: who uses the resource of the section of 7 ticks.
func TestWhoUsesTheResource(t *testing.T) {
	long := with(30, 2, 7)
	rows := []struct {
		what     string
		l        tasks
		at, want int
	}{
		{"a task with D below t", tasks{long, with(9, 2, 1)}, 10, 7},
		{"a task with D at t", tasks{long, with(10, 2, 1)}, 10, 7},
		{"a task with D just above t", tasks{long, with(11, 2, 1)}, 10, 0},
		{"its own task", tasks{long}, 10, 0},
		{"its own task, among others", tasks{with(9, 1, 1), long, with(40, 1, 5), with(8)}, 10, 5},
		{"its own task, among others that share nothing", tasks{with(9, 1, 1), long, with(40, 3, 5), with(8)}, 10, 0},
		{"its own task, twice", tasks{with(9, 1, 1), with(30, 2, 7, 2, 6)}, 10, 0},
		{"a task with the same D", tasks{long, with(9), with(30, 2, 9)}, 10, 0},
		{"tasks with D above t", tasks{with(11, 2, 1), long, with(50, 2, 8), with(9, 3, 1)}, 10, 0},
		{"tasks with D above t, and one at t", tasks{with(11, 2, 1), long, with(50, 2, 8), with(10, 2, 1)}, 10, 8},
		{"none but tasks without sections", tasks{with(9), long, with(10)}, 10, 0},
		{"a task that uses others too", tasks{with(9, 0, 1, 1, 1, 2, 1, 3, 1), long}, 10, 7},
		{"a task that uses all others", tasks{with(9, 0, 1, 1, 1, 3, 1), long}, 10, 0},
		{"a task for which t is below D", tasks{long, with(9, 2, 1)}, 8, 0},
		{"a task, t being its own D", tasks{long, with(9, 2, 1)}, 30, 0},
		{"a task, t just below its own D", tasks{long, with(9, 2, 1)}, 29, 7},
	}
	for _, r := range rows {
		if n, e := block.Of(r.l, r.at); n != r.want || e != api.OK {
			t.Errorf("used by %s: %d, %d, want %d", r.what, n, e, r.want)
		}
	}
}

// P8.1: the greatest Len at every place of the sections of three tasks; what does not count is longer still.
func TestTheGreatestLen(t *testing.T) {
	for greatest := range 9 {
		lens := []int{3, 4, 2, 4, 1, 3, 5, 2, 4}
		lens[greatest] = 6
		var l tasks
		for i := range 3 {
			k := 3 * i
			l = append(l, with(50+i, 0, lens[k], 1, lens[k+1], 3, 9, 0, lens[k+2]))
		}
		for at := range 4 {
			checkOf(t, slices.Insert(slices.Clone(l), at, with(45, 0, 20, 1, 20)), 49, 6, api.OK)
			checkOf(t, slices.Insert(slices.Clone(l), at, with(45, 2, 20)), 49, 0, api.OK)
		}
	}
}

// P8.1: tasks with equal D do not block each other, wherever they are; all of them block another one.
func TestEqualD(t *testing.T) {
	l := tasks{with(20, 0, 3, 1, 2), with(20, 0, 5), with(20, 1, 8)}
	for at := 18; at <= 22; at++ {
		checkOf(t, l, at, 0, api.OK)
	}
	checkSteps(t, l, []int{20}, api.OK)
	for place := range 4 {
		more := slices.Insert(slices.Clone(l), place, with(19, 0, 1))
		for at, want := range map[int]int{18: 0, 19: 5, 20: 0} {
			checkOf(t, more, at, want, api.OK)
		}
		checkSteps(t, more, []int{19, 20}, api.OK)
		more[place] = with(21, 1, 4, 0, 6)
		for at, want := range map[int]int{19: 0, 20: 6, 21: 0} {
			checkOf(t, more, at, want, api.OK)
		}
		checkSteps(t, more, []int{20, 21}, api.OK)
	}
}

// P8.1
func TestOfAsDescribed(t *testing.T) {
	count := map[bool]int{}
	for _, l := range lists() {
		for _, at := range times(l) {
			want, err := modelOf(l, at)
			checkOf(t, l, at, want, err)
			if err == api.OK {
				count[want > 0]++
			}
		}
	}
	if count[true] < 3000 || count[false] < 3000 {
		t.Errorf("too few cases of one kind: %v", count)
	}
}

// P8.1
func TestSteps(t *testing.T) {
	rows := []struct{ ds, want []int }{
		{nil, nil},
		{[]int{1}, []int{1}}, {[]int{200}, []int{200}}, {[]int{200, 1}, []int{1, 200}}, {[]int{1, 200}, []int{1, 200}},
		{[]int{4, 9}, []int{4, 9}}, {[]int{9, 4}, []int{4, 9}}, {[]int{4, 4}, []int{4}},
		{[]int{4, 6, 9}, []int{4, 6, 9}}, {[]int{4, 9, 6}, []int{4, 6, 9}}, {[]int{6, 4, 9}, []int{4, 6, 9}}, {[]int{6, 9, 4}, []int{4, 6, 9}}, {[]int{9, 4, 6}, []int{4, 6, 9}}, {[]int{9, 6, 4}, []int{4, 6, 9}},
		{[]int{6, 6, 4}, []int{4, 6}}, {[]int{6, 4, 6}, []int{4, 6}}, {[]int{4, 6, 6}, []int{4, 6}}, {[]int{4, 4, 6}, []int{4, 6}},
		{[]int{10, 11, 12, 13, 14, 15, 16, 17}, []int{10, 11, 12, 13, 14, 15, 16, 17}},
		{[]int{17, 16, 15, 14, 13, 12, 11, 10}, []int{10, 11, 12, 13, 14, 15, 16, 17}},
		{[]int{5, 100, 3, 99, 3, 100, 5, 4}, []int{3, 4, 5, 99, 100}},
		{[]int{7, 7, 7, 7, 7, 7, 7, 7}, []int{7}},
	}
	for _, r := range rows {
		checkSteps(t, due(r.ds...), r.want, api.OK)
	}
	checkSteps(t, four(), []int{3, 10, 20, 60}, api.OK)
	checkSteps(t, due(1, 2, 3, 4, 5, 6, 7, 8, 9), nil, api.ErrArg)
}

// orders returns all orders of the numbers below n.
func orders(n int) [][]int {
	out := [][]int{{}}
	for k := range n {
		var longer [][]int
		for _, o := range out {
			for at := range len(o) + 1 {
				longer = append(longer, slices.Insert(slices.Clone(o), at, k))
			}
		}
		out = longer
	}
	return out
}

// P8.1: tasks with four different D, one of them twice, and sections of every resource, in any order.
func TestTheOrderOfTasks(t *testing.T) {
	all := append(four(), with(10, 3, 8))
	for _, order := range orders(len(all)) {
		var l tasks
		for _, i := range order {
			l = append(l, all[i])
		}
		for at, want := range map[int]int{2: 0, 3: 2, 9: 2, 10: 20, 19: 20, 20: 20, 59: 20, 60: 0} {
			checkOf(t, l, at, want, api.OK)
		}
		checkSteps(t, l, []int{3, 10, 20, 60}, api.OK)
	}
}

// P8.1
func TestStepsAsDescribed(t *testing.T) {
	count := map[int]int{}
	for _, l := range lists() {
		want, err := modelSteps(l)
		checkSteps(t, l, want, err)
		count[len(want)]++
	}
	for n := range 7 {
		if count[n] < 10 {
			t.Errorf("too few lists with %d steps: %v", n, count)
		}
	}
}

// P8.1: neither C nor T nor the tick at which a section begins matters.
func TestOnlyDAndSectionsMatter(t *testing.T) {
	for _, l := range lists() {
		if !task.All(l) {
			continue
		}
		other := slices.Clone(l)
		for i, x := range l {
			other[i].T = x.D + (x.T+7)%(api.MaxTime+1-x.D)
			last := 0
			for _, s := range x.Secs {
				last = max(last, s.At+s.Len)
			}
			if last < x.D {
				other[i].Secs = slices.Clone(x.Secs)
				for k := range other[i].Secs {
					other[i].Secs[k].At++
				}
				other[i].C = last + 1
			}
		}
		for _, at := range times(l) {
			want, err := modelOf(l, at)
			checkOf(t, other, at, want, err)
		}
		want, err := modelSteps(l)
		checkSteps(t, other, want, err)
	}
}

// blocking returns the blocking for each tick from -2 on.
func blocking(t *testing.T, l tasks) []int {
	t.Helper()
	var out []int
	for at := -2; at <= api.MaxTime+2; at++ {
		n, err := block.Of(l, at)
		if err != api.OK {
			t.Fatalf("Of(%v, %d): error %d", l, at, err)
		}
		out = append(out, n)
	}
	return out
}

// P8.1, P8.2: the blocking from one of the steps to the next one, below the first one, and from the last one on.
func TestTheBlockingFromStepToStep(t *testing.T) {
	changed, kept := 0, 0
	for k, l := range lists() {
		steps, err := block.Steps(l)
		if err != api.OK || k%4 != 0 && len(l) < 4 {
			continue
		}
		all := blocking(t, l)
		for i, n := range all {
			at := i - 2
			if i > 0 && n != all[i-1] {
				changed++
				if !slices.Contains(steps, at) {
					t.Errorf("%v: the blocking is %d for %d and %d for %d, and the steps are %v", l, all[i-1], at-1, n, at, steps)
				}
			}
			if n == 0 {
				continue
			}
			kept++
			if at < steps[0] || at >= steps[len(steps)-1] {
				t.Errorf("%v: the blocking for %d is %d, and the steps are %v", l, at, n, steps)
			}
		}
	}
	if changed < 1000 || kept < 1000 {
		t.Errorf("too few of one kind: %d changes, %d ticks with blocking", changed, kept)
	}
}

// P8.2: at the ends, and far from all D.
func TestNoBlockingBelowAndAboveAllD(t *testing.T) {
	for _, l := range append(lists(), slices.Repeat(tasks{with(9, 0, 9), with(5, 0, 5)}, 4)) {
		if !task.All(l) {
			continue
		}
		least, greatest := 1, 0
		for i, x := range l {
			if i == 0 || x.D < least {
				least = x.D
			}
			greatest = max(greatest, x.D)
		}
		for _, at := range []int{math.MinInt, math.MinInt + 1, -api.MaxNum, -200, -1, 0, least - 1, greatest, greatest + 1, 200, 201, 1 << 32, api.MaxNum, math.MaxInt - 1, math.MaxInt} {
			checkOf(t, l, at, 0, api.OK)
		}
	}
}

// P8.2: every resource is used by one task alone, or by tasks with one and the same D.
func TestTasksThatShareNothing(t *testing.T) {
	rows := []tasks{
		{with(4, 0, 3), with(9, 1, 3), with(6, 2, 1), with(30, 3, 20)},
		{with(9, 3, 3, 3, 2), with(4, 2, 3), with(6, 1, 1), with(30), with(12)},
		{with(9, 3, 3, 0, 2, 3, 1), with(30, 1, 20, 2, 9)},
		{with(9, 0, 3), with(9, 0, 5), with(20, 1, 7), with(20, 1, 15), with(5)},
		due(3, 4, 5, 6, 6, 8, 200),
	}
	for _, l := range rows {
		for at := -1; at <= 201; at++ {
			checkOf(t, l, at, 0, api.OK)
		}
	}
	alone := 0
	for _, l := range lists() {
		if task.All(l) && !sharing(l) {
			alone++
			for _, at := range times(l) {
				checkOf(t, l, at, 0, api.OK)
			}
		}
	}
	if alone < 500 {
		t.Errorf("too few lists of tasks that share nothing: %d", alone)
	}
}

// sharing reports whether two tasks have sections of one resource.
func sharing(l tasks) bool {
	for i, x := range l {
		for _, y := range l[i+1:] {
			for n := range api.MaxTime + 1 {
				if blocks(x, y, n) {
					return true
				}
			}
		}
	}
	return false
}

// P8.3: the additional tasks are due earlier, later, and in between; there are longer sections than before, shorter ones, and none.
func TestATaskMore(t *testing.T) {
	additional := tasks{with(7), with(1, 0, 1), with(7, 0, 7), with(8, 3, 4), with(9, 3, 1, 0, 8), with(20, 1, 9, 2, 9), with(200, 0, 40, 1, 50, 2, 60, 3, 50)}
	same, greater := 0, 0
	for k, l := range lists() {
		if !task.All(l) {
			continue
		}
		for n, x := range additional {
			more := slices.Insert(slices.Clone(l), (n+k)%(len(l)+1), x)
			if len(l) == api.MaxTasks {
				checkOf(t, more, 7, 0, api.ErrArg)
				checkSteps(t, more, nil, api.ErrArg)
				continue
			}
			for _, at := range append(times(nil), 4, 5, 6, 7, 8, 9, 20, 100) {
				before, _ := block.Of(l, at)
				after, err := block.Of(more, at)
				if err != api.OK || after < before {
					t.Errorf("%v: the blocking for %d is %d, and with %v it is %d, %d", l, at, before, x, after, err)
				}
				if after > before {
					greater++
				} else if after > 0 {
					same++
				}
			}
		}
	}
	if greater < 3000 || same < 3000 {
		t.Errorf("too few cases of one kind: %d greater, %d equal", greater, same)
	}
}

// P8.3: at any place.
func TestATaskMoreAtAnyPlace(t *testing.T) {
	for place := range 5 {
		more := slices.Insert(four(), place, with(15, 3, 1, 0, 4))
		for at, want := range map[int]int{2: 0, 3: 4, 9: 4, 10: 4, 14: 4, 15: 20, 20: 20, 59: 20, 60: 0} {
			checkOf(t, more, at, want, api.OK)
		}
		checkSteps(t, more, []int{3, 10, 15, 20, 60}, api.OK)
	}
}

// nothing checks that tasks are refused, whatever t is.
func nothing(t *testing.T, l tasks) {
	t.Helper()
	for _, at := range []int{math.MinInt, -1, 0, 4, 5, 8, 9, 200, math.MaxInt} {
		checkOf(t, l, at, 0, api.ErrArg)
	}
	checkSteps(t, l, nil, api.ErrArg)
}

// P8.1: one task that is not valid, at any place, of one to nine tasks.
func TestTasksThatAreNotValid(t *testing.T) {
	for _, x := range wrong() {
		if task.Right(x) {
			t.Fatalf("%v is valid", x)
		}
		for n := 1; n <= api.MaxTasks+1; n++ {
			for place := range n {
				l := slices.Repeat(tasks{with(9, 0, 3, 1, 2), with(4, 0, 1)}, 5)[:n]
				l[place] = x
				nothing(t, l)
			}
		}
	}
}

// P8.1: from no task to one more than there may be, and far more.
func TestTheNumberOfTasks(t *testing.T) {
	for n := range 20 {
		l := slices.Repeat(tasks{with(9, 0, 3, 1, 2), with(4, 0, 1)}, 10)[:n]
		if n > api.MaxTasks {
			nothing(t, l)
			continue
		}
		want, steps := 3, []int{4, 9}
		if n < 2 {
			want, steps = 0, []int{9}[:n]
		}
		for at, want := range map[int]int{-1: 0, 0: 0, 3: 0, 4: want, 8: want, 9: 0, 10: 0} {
			checkOf(t, l, at, want, api.OK)
		}
		checkSteps(t, l, steps, api.OK)
	}
	nothing(t, slices.Repeat(due(5), 1<<12))
}

// P8.1: eight tasks that all share; the later one is due, the longer is its section.
func TestMaxTasksTasks(t *testing.T) {
	var l tasks
	for i := range api.MaxTasks {
		l = append(l, with(100-10*i, 2, 30-2*i))
	}
	for i := 1; i < len(l); i++ {
		checkOf(t, l, l[i].D, 30, api.OK)
		checkOf(t, l[i-1:], l[i].D, 30-2*(i-1), api.OK)
	}
	checkOf(t, l, 29, 0, api.OK)
	checkOf(t, l, 100, 0, api.OK)
	checkSteps(t, l, []int{30, 40, 50, 60, 70, 80, 90, 100}, api.OK)
	nothing(t, append(l, with(25, 2, 1)))
}

// The example of the chapter.
func TestExample(t *testing.T) {
	l := tasks{{C: 2, D: 4, T: 8, Secs: []api.Sec{{Res: 0, At: 1, Len: 1}}}, {C: 5, D: 9, T: 12, Secs: []api.Sec{{Res: 0, At: 1, Len: 3}}}}
	for at, want := range []int{0, 0, 0, 0, 3, 3, 3, 3, 3, 0, 0} {
		checkOf(t, l, at, want, api.OK)
	}
	checkSteps(t, l, []int{4, 9}, api.OK)
}

// results returns what both calls return.
func results(l tasks, at int) []int {
	n, err := block.Of(l, at)
	steps, e := block.Steps(l)
	return append([]int{n, int(err), int(e)}, steps...)
}

// copied returns the tasks with their sections in new memory, with others behind the sections and behind the tasks; and that memory, as a whole.
func copied(l tasks) (tasks, tasks) {
	whole := make(tasks, 0, len(l)+2)
	for _, t := range append(slices.Clip(l), with(3, 1, 2), with(2, 0, 1)) {
		t.Secs = append(append(make([]api.Sec, 0, len(t.Secs)+1), t.Secs...), api.Sec{Res: 2, At: 1, Len: 5})[:len(t.Secs)]
		whole = append(whole, t)
	}
	return whole[:len(l)], whole
}

// equal reports whether two lists of tasks, made by copied, are equal, with what is behind their sections.
func equal(a, b tasks) bool {
	return slices.EqualFunc(a, b, func(x, y api.Task) bool {
		return task.Same(x, y) && slices.Equal(x.Secs[:cap(x.Secs)], y.Secs[:cap(y.Secs)])
	})
}

// some returns a part of the lists, with valid and with other tasks.
func some() []tasks {
	out := []tasks{nil, four(), due(6, 4, 6), slices.Repeat(four(), 2), slices.Repeat(four(), 3)}
	for _, x := range wrong() {
		out = append(out, tasks{x}, append(four(), x))
	}
	return slices.Concat(out, small()[:400], mixed()[:400])
}

// R3: no call changes the tasks, their sections, or what lies behind these.
func TestArgumentsDoNotChange(t *testing.T) {
	for _, l := range some() {
		given, memory := copied(l)
		_, before := copied(l)
		for _, at := range times(l) {
			results(given, at)
		}
		if !equal(memory, before) {
			t.Errorf("a call changed its arguments: %v to %v", before, memory)
		}
	}
}

// R3: what is written into one result, spare capacity included, is seen in no other one, and not in the tasks.
func TestResultsAreNewMemory(t *testing.T) {
	for _, l := range some() {
		given, memory := copied(l)
		_, before := copied(l)
		want := results(l, 7)
		first, _ := block.Steps(given)
		second, _ := block.Steps(given)
		kept := slices.Clone(second)
		whole := first[:cap(first)]
		for i := range whole {
			whole[i] = -7
		}
		if !slices.Equal(second, kept) || !equal(memory, before) || !slices.Equal(results(given, 7), want) {
			t.Errorf("%v: the results share memory", l)
		}
	}
}

// R3, R4: no call keeps what it is given: after other calls, and after a change in the same memory, the results are those of new memory.
func TestNothingIsKept(t *testing.T) {
	all := some()
	memory, secs := make(tasks, 16), make([]api.Sec, 100)
	for n, l := range all {
		for _, at := range []int{3, 6, 7, 20} {
			want := results(l, at)
			results(all[(n+1)%len(all)], at)
			given, space := memory[:copy(memory, l)], secs
			for k := range given {
				m := copy(space, given[k].Secs)
				given[k].Secs, space = space[:m], space[m:]
			}
			for range 2 {
				if got := results(given, at); !slices.Equal(got, want) {
					t.Errorf("the results of %v, %d: %v, and before %v", l, at, got, want)
				}
			}
		}
	}
}

// R3: a nil list and an empty one are the same.
func TestNoListAndAnEmptyOne(t *testing.T) {
	for _, at := range times(nil) {
		for _, l := range []tasks{nil, {}, make(tasks, 0, 3), four()[:0]} {
			checkOf(t, l, at, 0, api.OK)
			checkSteps(t, l, nil, api.OK)
		}
	}
	for _, l := range some() {
		empty := slices.Clone(l)
		for k := range empty {
			if len(empty[k].Secs) == 0 {
				empty[k].Secs = []api.Sec{}
			}
		}
		if a, b := results(l, 7), results(empty, 7); !slices.Equal(a, b) {
			t.Errorf("%v: %v, and with empty lists: %v", l, a, b)
		}
	}
}

// R1: lists far beyond the limits, and any structs.
func TestEveryCallReturns(t *testing.T) {
	nothing(t, make(tasks, 1<<12))
	nothing(t, slices.Repeat(four(), 1<<10))
	nothing(t, tasks{{C: 9, D: 12, T: 20, Secs: make([]api.Sec, 1<<16)}})
	ends := []int{math.MinInt, -1, 0, 1, math.MaxInt}
	for _, a := range ends {
		for _, b := range ends {
			for _, c := range ends {
				x := api.Task{C: a, D: b, T: c, Secs: []api.Sec{{Res: a, At: b, Len: c}, {Res: c, At: a, Len: b}}}
				nothing(t, tasks{x})
				nothing(t, tasks{with(5, 0, 1), x, with(9, 0, 3)})
				l := tasks{with(5, 0, 1), with(9, 0, 3), {C: 3, D: 7, T: 9, Secs: []api.Sec{{Res: 1, At: 0, Len: 1}, {Res: a, At: b, Len: c}}}}
				for _, at := range ends {
					want, err := modelOf(l, at)
					checkOf(t, l, at, want, err)
				}
				want, err := modelSteps(l)
				checkSteps(t, l, want, err)
			}
		}
	}
}
