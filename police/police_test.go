package police_test

import (
	"math"
	"math/rand"
	"slices"
	"testing"

	"remontoir/api"
	"remontoir/demand"
	"remontoir/police"
	"remontoir/task"
)

type (
	tasks = []api.Task
	asks  = []police.Ask
)

// lastTick is the last tick at which a job may be released.
const lastTick = api.MaxNum - api.MaxTime

// ends returns the numbers at the ends of int, and at what is promised of numbers.
func ends() []int {
	return []int{math.MinInt, math.MinInt + 1, -api.MaxNum - 1, -api.MaxNum, -2, -1, 0, 1, 1<<32 + 1, lastTick - 1, lastTick, lastTick + 1, api.MaxNum - 1, api.MaxNum, api.MaxNum + 1, math.MaxInt - 1, math.MaxInt}
}

// some returns valid tasks with different T, the smallest and the greatest among them, as many as there may be.
func some() tasks {
	return tasks{
		{C: 1, D: 5, T: 5},
		{C: 1, D: 1, T: 1},
		{C: 5, D: 7, T: 9, Secs: []api.Sec{{Res: 0, At: 1, Len: 3}, {Res: 1, At: 2, Len: 1}}},
		{C: 200, D: 200, T: 200},
		{C: 2, D: 3, T: 200, Secs: []api.Sec{{Res: 3, At: 0, Len: 2}}},
		{C: 1, D: 2, T: 3},
		{C: 1, D: 1, T: 199},
		{C: 2, D: 2, T: 2},
	}
}

// wrongTasks returns lists of tasks that are not valid: because of one of them, the last or the first one, or because there are too many.
func wrongTasks() []tasks {
	var out []tasks
	for _, bad := range []api.Task{
		{}, {C: 3, D: 2, T: 4}, {C: 1, D: 3, T: 2}, {C: 1, D: 1, T: 201}, {C: 0, D: 1, T: 1}, {C: -1, D: 1, T: 1},
		{C: 3, D: 3, T: 3, Secs: []api.Sec{{Res: 4, At: 0, Len: 1}}}, {C: 3, D: 3, T: 3, Secs: []api.Sec{{Res: 0, At: 2, Len: 2}}},
		{C: math.MaxInt, D: math.MaxInt, T: math.MaxInt}, {C: math.MinInt, D: math.MinInt, T: math.MinInt},
	} {
		out = append(out, tasks{bad}, append(some()[:6:6], bad), append(tasks{bad}, some()[:6]...))
	}
	return append(out, append(some(), some()[0]), slices.Repeat(some(), 3), slices.Repeat(tasks{{C: 2, D: 4, T: 6}}, api.MaxTasks+1))
}

// never returns n last releases of tasks that never released a job.
func never(n int) []int {
	return slices.Repeat([]int{-1}, n)
}

// modelRight is the document's word.
func modelRight(l tasks, lasts []int) bool {
	right := task.All(l) && len(l) == len(lasts)
	for _, last := range lasts {
		right = right && -1 <= last && last <= api.MaxNum
	}
	return right
}

// modelMay is the document's word; T is taken from the tick, which is at least 0.
func modelMay(l tasks, lasts []int, i, t int) api.Errno {
	if !modelRight(l, lasts) || i < 0 || i > len(l)-1 || t < 0 || t > lastTick {
		return api.ErrArg
	}
	if lasts[i] == -1 || lasts[i] <= t-l[i].T {
		return api.OK
	}
	return api.ErrEarly
}

// modelNote is the document's word.
func modelNote(l tasks, lasts []int, i, t int) ([]int, api.Errno) {
	err := modelMay(l, lasts, i, t)
	var after []int
	for k, last := range lasts {
		if err == api.OK && k == i {
			last = t
		}
		after = append(after, last)
	}
	return after, err
}

// modelFilter looks for each request at the permitted ones ahead of it, without any last releases.
func modelFilter(l tasks, list asks) []bool {
	if !task.All(l) {
		return nil
	}
	var out []bool
	for n, a := range list {
		permitted := a.Task >= 0 && a.Task < len(l) && a.At >= 0 && a.At <= lastTick
		for k := n - 1; k >= 0 && permitted; k-- {
			if out[k] && list[k].Task == a.Task {
				permitted = a.At-list[k].At >= l[a.Task].T
				break
			}
		}
		out = append(out, permitted)
	}
	return out
}

// check checks Right, May and Note for tasks and last releases, valid or not.
func check(t *testing.T, l tasks, lasts []int, i, at int) {
	t.Helper()
	if got, want := police.Right(l, lasts), modelRight(l, lasts); got != want {
		t.Errorf("Right(%v, %v): %v, want %v", l, lasts, got, want)
	}
	if got, want := police.May(l, lasts, i, at), modelMay(l, lasts, i, at); got != want {
		t.Errorf("May(%v, %v, %d, %d): %d, want %d", l, lasts, i, at, got, want)
	}
	got, err := police.Note(l, lasts, i, at)
	if want, wantErr := modelNote(l, lasts, i, at); err != wantErr || !slices.Equal(got, want) {
		t.Errorf("Note(%v, %v, %d, %d): %v, %d, want %v, %d", l, lasts, i, at, got, err, want, wantErr)
	}
}

// checkFilter checks Filter for tasks and requests, valid or not.
func checkFilter(t *testing.T, l tasks, list asks) []bool {
	t.Helper()
	got := police.Filter(l, list)
	if want := modelFilter(l, list); !slices.Equal(got, want) {
		t.Errorf("Filter(%v, %v): %v, want %v", l, list, got, want)
	}
	return got
}

// refused checks that May and Note return the error, and Note the last releases as they are.
func refused(t *testing.T, l tasks, lasts []int, i, at int, want api.Errno) {
	t.Helper()
	before := slices.Clone(lasts)
	if err := police.May(l, lasts, i, at); err != want {
		t.Errorf("May(%v, %v, %d, %d): %d, want %d", l, lasts, i, at, err, want)
	}
	if after, err := police.Note(l, lasts, i, at); err != want || !slices.Equal(after, before) {
		t.Errorf("Note(%v, %v, %d, %d): %v, %d, want %d", l, lasts, i, at, after, err, want)
	}
}

// permitted checks that May and Note return OK, and Note the last releases with this one.
func permitted(t *testing.T, l tasks, lasts []int, i, at int) {
	t.Helper()
	want := slices.Clone(lasts)
	want[i] = at
	if err := police.May(l, lasts, i, at); err != api.OK {
		t.Errorf("May(%v, %v, %d, %d): %d", l, lasts, i, at, err)
	}
	if after, err := police.Note(l, lasts, i, at); err != api.OK || !slices.Equal(after, want) {
		t.Errorf("Note(%v, %v, %d, %d): %v, %d, want %v", l, lasts, i, at, after, err, want)
	}
}

// P16.1: how many last releases there are: as many as tasks, one too few, one too many, and others.
func TestRightNumberOfLasts(t *testing.T) {
	for n := range api.MaxTasks + 1 {
		for k := range 3 * api.MaxTasks {
			if got := police.Right(some()[:n], never(k)); got != (n == k) {
				t.Errorf("Right of %d tasks and %d last releases: %v", n, k, got)
			}
			if n != k {
				for i := range max(n, k) {
					refused(t, some()[:n], never(k), i, 0, api.ErrArg)
				}
			}
		}
	}
	if !police.Right(nil, nil) || !police.Right(tasks{}, []int{}) || police.Right(nil, []int{-1}) || police.Right(some()[:1], nil) {
		t.Error("Right of no tasks, or of no last releases")
	}
}

// P16.1: each last release is from -1 to MaxNum, whichever it is.
func TestRightEachLast(t *testing.T) {
	for n := 1; n <= api.MaxTasks; n++ {
		for i := range n {
			for _, last := range append(ends(), 5, 204, -3, api.MaxNum-5) {
				for _, lasts := range [][]int{never(n), make([]int, n), slices.Repeat([]int{api.MaxNum}, n)} {
					lasts[i] = last
					want := last >= -1 && last < 1<<62
					if got := police.Right(some()[:n], lasts); got != want {
						t.Errorf("Right of %d tasks, %v: %v", n, lasts, got)
					}
					if !want {
						refused(t, some()[:n], lasts, i, lastTick, api.ErrArg)
						refused(t, some()[:n], lasts, (i+1)%n, lastTick, api.ErrArg)
					}
				}
			}
		}
	}
}

// P16.1, P16.2: of tasks that are not valid, however many last releases there are, nothing is.
func TestTasksThatAreNotValid(t *testing.T) {
	for _, l := range wrongTasks() {
		for _, n := range []int{0, 1, len(l) - 1, len(l), len(l) + 1, api.MaxTasks} {
			if police.Right(l, never(n)) || police.Right(l, make([]int, n)) {
				t.Errorf("Right of tasks that are not valid: %v, %d", l, n)
			}
			for i := -1; i <= len(l); i++ {
				refused(t, l, never(n), i, 0, api.ErrArg)
				refused(t, l, make([]int, n), i, 0, api.ErrArg)
				refused(t, l, make([]int, n), i, 300, api.ErrArg)
			}
		}
		for _, list := range []asks{nil, {}, {{}}, {{At: 5}, {Task: 1, At: 7}, {Task: len(l) - 1}}} {
			if f := police.Filter(l, list); len(f) > 0 {
				t.Errorf("Filter(%v, %v): %v", l, list, f)
			}
		}
	}
}

// P16.1: a task's number of -1, of each task, one above the last one, and others.
func TestNumberOfTheTask(t *testing.T) {
	for n := range api.MaxTasks + 1 {
		l := some()[:n]
		for _, i := range append(ends(), n-1, n, n+1, api.MaxTasks, -api.MaxTasks) {
			if i < 0 || i >= n {
				refused(t, l, never(n), i, 0, api.ErrArg)
				refused(t, l, make([]int, n), i, 1, api.ErrArg)
			}
		}
		for i := range n {
			permitted(t, l, never(n), i, 0)
			permitted(t, l, slices.Repeat([]int{33}, n), i, 33+l[i].T)
		}
	}
}

// P16.1: ticks are from 0 to MaxNum - MaxTime, for a task that never released a job, and for one that did.
func TestTicks(t *testing.T) {
	l := some()
	for i := range l {
		for _, at := range append(ends(), 2, 7, 200, lastTick+2, lastTick+200) {
			if at < 0 || at > lastTick {
				refused(t, l, never(len(l)), i, at, api.ErrArg)
				refused(t, l, make([]int, len(l)), i, at, api.ErrArg)
				refused(t, l, slices.Repeat([]int{lastTick}, len(l)), i, at, api.ErrArg)
				refused(t, l, slices.Repeat([]int{api.MaxNum}, len(l)), i, at, api.ErrArg)
			} else {
				permitted(t, l, never(len(l)), i, at)
			}
		}
	}
}

// P16.1: the last release plus T just at the tick, one above it, one below it, and further away; other tasks do not count.
func TestLastReleasePlusT(t *testing.T) {
	l := some()
	for i, x := range l {
		for _, last := range []int{0, 1, 4, 7, 199, 200, 1 << 32, lastTick - 500, lastTick - 202, lastTick - x.T - 2, lastTick - x.T - 1, lastTick - x.T} {
			for _, others := range []int{-1, 0, last, last + x.T, api.MaxNum} {
				lasts := slices.Repeat([]int{others}, len(l))
				lasts[i] = last
				for at := max(0, last-3); at < last+x.T; at++ {
					refused(t, l, lasts, i, at, api.ErrEarly)
				}
				for _, at := range []int{0, last, last + x.T - 1} {
					refused(t, l, lasts, i, at, api.ErrEarly)
				}
				for _, at := range []int{last + x.T, last + x.T + 1, last + x.T + 2, last + 201, lastTick - 1, lastTick} {
					if last+x.T <= at && at <= lastTick {
						permitted(t, l, lasts, i, at)
					}
				}
			}
		}
	}
}

// P16.1: a last release above the tick, up to MaxNum, and one after which no tick is late enough.
func TestLastReleaseAboveTheTick(t *testing.T) {
	l := some()
	for i, x := range l {
		for _, last := range []int{lastTick - x.T + 1, lastTick, lastTick + 1, api.MaxNum - x.T, api.MaxNum - x.T + 1, api.MaxNum - 1, api.MaxNum} {
			lasts := never(len(l))
			lasts[i] = last
			for _, at := range []int{0, 1, 200, lastTick - x.T, lastTick - 1, lastTick} {
				refused(t, l, lasts, i, at, api.ErrEarly)
			}
		}
		for last := range 30 {
			lasts := never(len(l))
			lasts[i] = last
			for at := range last + 1 {
				refused(t, l, lasts, i, at, api.ErrEarly)
			}
		}
	}
}

// P16.1: a last release of -1 is none: after one at tick -1 the first T - 1 ticks would be too early.
func TestNeverReleased(t *testing.T) {
	l := some()
	for i := range l {
		for at := range 205 {
			permitted(t, l, never(len(l)), i, at)
			lasts := slices.Repeat([]int{api.MaxNum}, len(l))
			lasts[i] = -1
			permitted(t, l, lasts, i, at)
		}
	}
}

// P16.1: where an argument is wrong, and the release would be early, too, the error is ErrArg.
func TestWrongArgumentsOfAnEarlyRelease(t *testing.T) {
	l, lasts := some()[:3], []int{7, 7, 7}
	refused(t, l, lasts, 2, 8, api.ErrEarly)
	refused(t, l, []int{7, 7}, 1, 7, api.ErrArg)
	refused(t, l, []int{7, 7, 7, 7}, 1, 7, api.ErrArg)
	refused(t, l, []int{-2, 7, 7}, 2, 8, api.ErrArg)
	refused(t, l, []int{api.MaxNum + 1, 7, 7}, 2, 8, api.ErrArg)
	refused(t, l, []int{7, 7, api.MaxNum + 1}, 2, 8, api.ErrArg)
	refused(t, l, []int{7, 7, math.MaxInt}, 2, 8, api.ErrArg)
	refused(t, l, []int{7, 7, -2}, 2, 8, api.ErrArg)
	refused(t, l, lasts, -1, 7, api.ErrArg)
	refused(t, l, lasts, 3, 7, api.ErrArg)
	refused(t, l, lasts, 2, -1, api.ErrArg)
	refused(t, l, []int{0, 0, 0}, 0, math.MinInt, api.ErrArg)
	refused(t, l, []int{lastTick, lastTick, lastTick}, 2, lastTick+1, api.ErrArg)
	refused(t, l, []int{api.MaxNum, api.MaxNum, api.MaxNum}, 2, math.MaxInt, api.ErrArg)
	refused(t, append(l[:2:2], api.Task{C: 9, D: 8, T: 9}), lasts, 1, 7, api.ErrArg)
	refused(t, slices.Repeat(l, 3), slices.Repeat(lasts, 3), 1, 7, api.ErrArg)
}

// P16.1: all last releases of up to three tasks in a small range, with all numbers of tasks and all ticks.
func TestAsDescribed(t *testing.T) {
	l := tasks{{C: 1, D: 2, T: 3}, {C: 1, D: 1, T: 1}, {C: 2, D: 2, T: 2, Secs: []api.Sec{{Res: 1, At: 0, Len: 2}}}}
	var walk func(lasts []int)
	walk = func(lasts []int) {
		for n := range len(l) + 1 {
			for i := -1; i <= n; i++ {
				for at := -1; at <= 8; at++ {
					check(t, l[:n], lasts, i, at)
				}
			}
		}
		for last := -2; last <= 5 && len(lasts) <= len(l); last++ {
			walk(append(slices.Clip(lasts), last))
		}
	}
	walk(nil)
}

// P16.1: numbers at the ends of int, and near one another, by chance.
func TestAsDescribedByChance(t *testing.T) {
	r := rand.New(rand.NewSource(16))
	kinds := map[api.Errno]int{}
	for range 40000 {
		l := some()[:1+r.Intn(api.MaxTasks)]
		lasts := never(len(l))
		for i := range lasts {
			switch r.Intn(9) {
			case 0, 1, 2, 3:
				lasts[i] = lastTick - 600 + r.Intn(650)
			case 4, 5, 6:
				lasts[i] = r.Intn(400)
			case 7:
				lasts[i] = ends()[4+r.Intn(len(ends())-6)]
			}
		}
		i := r.Intn(len(l))
		at := []int{lasts[i] + l[i].T, lasts[i] + l[i].T - 1, lasts[i] + r.Intn(201), r.Intn(600), lastTick - r.Intn(201)}[r.Intn(5)]
		check(t, l, lasts, i, at)
		kinds[police.May(l, lasts, i, at)]++
	}
	if len(kinds) != 3 || kinds[api.OK] < 4000 || kinds[api.ErrEarly] < 4000 || kinds[api.ErrArg] < 4000 {
		t.Errorf("too few of a kind: %v", kinds)
	}
}

// P16.2: the edges, one by one.
func TestFilter(t *testing.T) {
	for _, x := range []struct {
		name string
		list asks
		want []bool
	}{
		{"no requests", nil, nil},
		{"no requests in a list", asks{}, nil},
		{"one at 0", asks{{}}, []bool{true}},
		{"one at 0, of the last task", asks{{Task: 7}}, []bool{true}},
		{"one at the last tick", asks{{At: lastTick}}, []bool{true}},
		{"one task", asks{{At: 0}, {At: 4}, {At: 5}, {At: 9}, {At: 11}}, []bool{true, false, true, false, true}},
		{"one task, just T apart", asks{{At: 3}, {At: 8}, {At: 13}, {At: 18}}, []bool{true, true, true, true}},
		{"one task, one less than T apart", asks{{At: 3}, {At: 7}, {At: 12}, {At: 16}, {At: 17}}, []bool{true, false, true, false, true}},
		{"the same request twice", asks{{At: 3}, {At: 3}, {Task: 1, At: 3}, {Task: 1, At: 3}}, []bool{true, false, true, false}},
		{"a task with T 1", asks{{Task: 1, At: 0}, {Task: 1, At: 1}, {Task: 1, At: 2}, {Task: 1, At: 2}}, []bool{true, true, true, false}},
		{"a task with the greatest T", asks{{Task: 3, At: 1}, {Task: 3, At: 200}, {Task: 3, At: 201}, {Task: 3, At: 400}, {Task: 3, At: 401}}, []bool{true, false, true, false, true}},
		{"several in turn", asks{{At: 0}, {Task: 5, At: 0}, {At: 3}, {Task: 5, At: 3}, {At: 5}, {Task: 5, At: 5}, {Task: 2, At: 5}, {Task: 5, At: 6}}, []bool{true, true, false, true, true, false, true, true}},
		{"no such task", asks{{Task: -1}, {Task: 8}, {Task: 9}, {Task: math.MinInt}, {Task: math.MaxInt}, {Task: 0}}, []bool{false, false, false, false, false, true}},
		{"no such task, at ticks outside", asks{{Task: -1, At: -1}, {Task: 8, At: math.MaxInt}, {Task: math.MinInt, At: math.MinInt}}, []bool{false, false, false}},
		{"ticks outside", asks{{At: -1}, {At: math.MinInt}, {At: lastTick + 1}, {At: api.MaxNum}, {At: math.MaxInt}, {At: 0}}, []bool{false, false, false, false, false, true}},
		{"ticks outside, behind one that is permitted", asks{{At: 3}, {At: -1}, {At: lastTick + 1}, {At: math.MaxInt}, {At: 8}}, []bool{true, false, false, false, true}},
		{"ticks that fall", asks{{At: 20}, {At: 15}, {At: 10}, {At: 0}, {At: 24}, {At: 25}}, []bool{true, false, false, false, false, true}},
		{"ticks that fall, of several", asks{{At: 20}, {Task: 1, At: 15}, {Task: 5, At: 10}, {Task: 1, At: 14}, {Task: 2, At: 0}}, []bool{true, true, true, false, true}},
		{"from the last tick", asks{{At: lastTick}, {At: 0}, {At: lastTick}, {At: lastTick - 5}}, []bool{true, false, false, false}},
		{"to the last tick", asks{{At: lastTick - 9}, {At: lastTick - 5}, {At: lastTick - 4}, {At: lastTick}, {At: lastTick + 1}}, []bool{true, false, true, false, false}},
		{"a refused one is not recorded", asks{{At: 0}, {At: 4}, {At: 5}, {At: 9}, {At: 10}}, []bool{true, false, true, false, true}},
		{"many refused ones", asks{{At: 0}, {At: 1}, {At: 2}, {At: 3}, {At: 4}, {At: 5}, {At: 6}}, []bool{true, false, false, false, false, true, false}},
		{"a refused one, of which a later one is less than T apart", asks{{At: 10}, {At: 14}, {At: 18}, {At: 22}, {At: 26}}, []bool{true, false, true, false, true}},
		{"a tick outside is not recorded", asks{{At: lastTick + 1}, {At: 1}, {At: -1}, {At: 6}}, []bool{false, true, false, true}},
		{"a refused one of another task", asks{{At: 0}, {Task: 2, At: 0}, {Task: 2, At: 8}, {At: 5}, {Task: 2, At: 9}, {At: 10}}, []bool{true, true, false, true, true, true}},
	} {
		if got := police.Filter(some(), x.list); !slices.Equal(got, x.want) {
			t.Errorf("%s: Filter(%v): %v, want %v", x.name, x.list, got, x.want)
		}
		checkFilter(t, some(), x.list)
	}
}

// P16.2: of no tasks no request is permitted, but each is answered.
func TestFilterOfNoTasks(t *testing.T) {
	for _, l := range []tasks{nil, {}} {
		if f := police.Filter(l, nil); len(f) > 0 {
			t.Errorf("Filter of no tasks and no requests: %v", f)
		}
		for n := range 4 {
			list := asks{{}, {Task: -1}, {At: 9}, {Task: 1, At: 3}}[:n+1]
			if f := police.Filter(l, list); !slices.Equal(f, make([]bool, n+1)) {
				t.Errorf("Filter(%v, %v): %v", l, list, f)
			}
		}
	}
}

// P16.2, P16.3: all lists of requests, of tasks that there are and others, in a small range, also with ticks that fall.
func TestFilterAsDescribed(t *testing.T) {
	var walk func(l tasks, list asks, ticks, n int)
	walk = func(l tasks, list asks, ticks, n int) {
		pattern(t, l, list, checkFilter(t, l, list))
		for i := -1; n > 0 && i <= len(l); i++ {
			for at := -1; at < ticks; at++ {
				walk(l, append(slices.Clip(list), police.Ask{Task: i, At: at}), ticks, n-1)
			}
		}
	}
	walk(nil, nil, 2, 2)
	walk(tasks{{C: 1, D: 1, T: 1}}, nil, 3, 4)
	walk(tasks{{C: 1, D: 2, T: 2}}, nil, 5, 4)
	walk(tasks{{C: 2, D: 3, T: 3}, {C: 1, D: 1, T: 2}}, nil, 6, 3)
	walk(tasks{{C: 1, D: 1, T: 1}, {C: 1, D: 2, T: 2}, {C: 1, D: 1, T: 3}}, nil, 5, 3)
}

// released returns for each task the ticks of its permitted requests, in order.
func released(l tasks, list asks, permitted []bool) [][]int {
	out := make([][]int, len(l))
	for n, a := range list {
		if permitted[n] {
			out[a.Task] = append(out[a.Task], a.At)
		}
	}
	return out
}

// pattern checks that permitted requests are a release pattern, and that each one of them is at least T after the previous one.
func pattern(t *testing.T, l tasks, list asks, permitted []bool) [][]int {
	t.Helper()
	if len(permitted) != len(list) {
		t.Fatalf("Filter(%v, %v): %v", l, list, permitted)
	}
	out := released(l, list, permitted)
	if !demand.Legal(l, out) {
		t.Errorf("of %v not a release pattern of %v: %v", list, l, out)
	}
	for i, ticks := range out {
		for n := 1; n < len(ticks); n++ {
			if ticks[n]-ticks[n-1] < l[i].T {
				t.Errorf("%d and %d are permitted for %v", ticks[n-1], ticks[n], l[i])
			}
		}
	}
	return out
}

// mixed returns n requests by chance: at ticks that mostly increase, or near the last tick, or at any, or at the ends of int.
func mixed(r *rand.Rand, n, kind int) asks {
	var out asks
	now := []int{0, lastTick - 3*n, 0, 0}[kind]
	for range n {
		a := police.Ask{Task: r.Intn(api.MaxTasks+2) - 1}
		switch kind {
		case 0, 1:
			now += r.Intn(6)
			a.At = now - r.Intn(2)*r.Intn(3)
		case 2:
			a.At = r.Intn(900) - 3
		default:
			a = police.Ask{Task: ends()[r.Intn(len(ends()))], At: ends()[r.Intn(len(ends()))]}
			if r.Intn(3) > 0 {
				a.Task = r.Intn(api.MaxTasks)
			}
		}
		out = append(out, a)
	}
	return out
}

// P16.2, P16.3: requests by chance; those that are permitted are a pattern, and no request that could be added to it is refused.
func TestFilterByChance(t *testing.T) {
	r := rand.New(rand.NewSource(17))
	yes, no := 0, 0
	for k := range 1500 {
		l := some()[:1+r.Intn(api.MaxTasks)]
		list := mixed(r, r.Intn(400), k%4)
		permitted := checkFilter(t, l, list)
		pattern(t, l, list, permitted)
		for n, a := range list {
			if permitted[n] {
				yes++
				continue
			}
			no++
			if a.Task < 0 || a.Task >= len(l) {
				continue
			}
			before := released(l, list[:n], permitted[:n])
			before[a.Task] = append(before[a.Task], a.At)
			if a.At <= lastTick && demand.Legal(l, before) {
				t.Fatalf("%v could be permitted for %v behind %v", a, l, list[:n])
			}
		}
	}
	if yes < 20000 || no < 20000 {
		t.Errorf("too few of a kind: %d, %d", yes, no)
	}
}

// P16.3: as many releases as a pattern may have: of requests at each tick those T apart are permitted.
func TestPatternOfRequestsAtEachTick(t *testing.T) {
	for _, x := range some() {
		for _, from := range []int{0, 1, 77, lastTick - 999} {
			var list asks
			var want []int
			for k := range 1000 {
				list = append(list, police.Ask{At: from + k})
				if k%x.T == 0 {
					want = append(want, from+k)
				}
			}
			got := pattern(t, tasks{x}, list, police.Filter(tasks{x}, list))
			if !slices.Equal(got[0], want) {
				t.Errorf("of requests at each tick from %d on, for %v: %v", from, x, got[0])
			}
		}
	}
}

// P16.3: a pattern is permitted as a whole, also when the tasks' requests are mixed.
func TestPatternsArePermitted(t *testing.T) {
	r := rand.New(rand.NewSource(18))
	for range 300 {
		l := some()[:1+r.Intn(api.MaxTasks)]
		next := never(len(l))
		for i := range next {
			next[i] = r.Intn(9)
		}
		var list asks
		for range 300 {
			i := r.Intn(len(l))
			list = append(list, police.Ask{Task: i, At: next[i]})
			next[i] += l[i].T + r.Intn(3)*r.Intn(3)
		}
		if slices.Contains(police.Filter(l, list), false) {
			t.Errorf("Filter(%v, %v) refuses a request of a pattern", l, list)
		}
	}
}

// P16.2: the results are those of Note, request by request; the last releases stay valid, and only the task's own one changes.
func TestFilterIsNote(t *testing.T) {
	r := rand.New(rand.NewSource(19))
	for k := range 400 {
		l := some()[:1+r.Intn(api.MaxTasks)]
		list := mixed(r, 200, k%4)
		permitted, lasts := police.Filter(l, list), never(len(l))
		for n, a := range list {
			after, err := police.Note(l, lasts, a.Task, a.At)
			if err != police.May(l, lasts, a.Task, a.At) || permitted[n] != (err == api.OK) || !police.Right(l, after) {
				t.Fatalf("%v of %v with %v: %v, but Note: %v, %d", a, l, lasts, permitted[n], after, err)
			}
			for i := range l {
				if i == a.Task && permitted[n] && after[i] != a.At || (i != a.Task || !permitted[n]) && after[i] != lasts[i] {
					t.Fatalf("Note of %v with %v: %v", a, lasts, after)
				}
			}
			lasts = after
		}
	}
}

// P16.4: with the same last releases there is one tick, from which on a task may release a job at each, and before which at none.
func TestPermittedLater(t *testing.T) {
	l := some()
	for i, x := range l {
		for _, last := range []int{-1, 0, 1, 7, 250, lastTick - 600, lastTick - 250, lastTick - x.T, lastTick - x.T + 1, lastTick, api.MaxNum} {
			lasts := slices.Repeat([]int{300}, len(l))
			lasts[i] = last
			for _, from := range []int{0, max(0, min(last, lastTick)-210), lastTick - 460} {
				may := false
				for at := from; at <= min(from+460, lastTick); at++ {
					switch err := police.May(l, lasts, i, at); {
					case err == api.OK:
						may = true
					case err != api.ErrEarly || may:
						t.Fatalf("May(%v, %d, %d): %d, and before it may: %v", lasts, i, at, err, may)
					}
				}
			}
		}
	}
}

// P16.4: what is permitted is so later, too, after any requests, whatever may be refused in between.
func TestPermittedLaterByChance(t *testing.T) {
	r := rand.New(rand.NewSource(20))
	later := 0
	for k := range 6000 {
		l := some()[:1+r.Intn(api.MaxTasks)]
		list := mixed(r, r.Intn(60), k%4)
		a := police.Ask{Task: r.Intn(len(l)), At: r.Intn(400)}
		if k%4 == 1 {
			a.At = lastTick - 200 + r.Intn(201)
		}
		if f := police.Filter(l, append(slices.Clip(list), a)); !f[len(list)] {
			continue
		}
		for _, more := range []int{0, 1, 2, r.Intn(400), 1 << 40, lastTick - a.At} {
			b := police.Ask{Task: a.Task, At: a.At + more}
			refused := police.Ask{Task: len(l), At: b.At}
			if f := police.Filter(l, append(slices.Clip(list), refused, b)); f[len(list)+1] != (b.At <= lastTick) {
				t.Errorf("%v is permitted for %v behind %v, and %v is not", a, l, list, b)
			}
			later++
		}
	}
	if later < 6000 {
		t.Errorf("too few that are permitted: %d", later)
	}
}

// The example of the chapter, and the same one with the eighth example of the whole.
func TestExample(t *testing.T) {
	list := asks{{At: 0}, {At: 4}, {At: 5}, {At: 9}, {At: 11}}
	want := []bool{true, false, true, false, true}
	for _, x := range (tasks{{C: 1, D: 5, T: 5}, {C: 5, D: 5, T: 5}, {C: 2, D: 3, T: 5}}) {
		if f := police.Filter(tasks{x}, list); !slices.Equal(f, want) {
			t.Errorf("Filter(%v, %v): %v", x, list, f)
		}
	}
}

// answers is what all calls return.
type answers struct {
	right  bool
	may    api.Errno
	lasts  []int
	note   api.Errno
	filter []bool
}

func call(l tasks, lasts []int, list asks, i, at int) answers {
	after, err := police.Note(l, lasts, i, at)
	return answers{police.Right(l, lasts), police.May(l, lasts, i, at), after, err, police.Filter(l, list)}
}

func (a answers) equal(b answers) bool {
	return a.right == b.right && a.may == b.may && slices.Equal(a.lasts, b.lasts) && a.note == b.note && slices.Equal(a.filter, b.filter)
}

// copied returns the tasks in new memory, that lies also behind them, with their sections in memory of its own.
func copied(l tasks) tasks {
	out := make(tasks, len(l), len(l)+2)
	for i, t := range l {
		out[i] = t
		out[i].Secs = append(make([]api.Sec, 0, len(t.Secs)+1), t.Secs...)
		out[i].Secs = append(out[i].Secs, api.Sec{Res: 9, At: 9, Len: 9})[:len(t.Secs)]
	}
	return append(out, api.Task{C: 7}, api.Task{D: 7})[:len(l)]
}

// sameTasks reports whether tasks are equal, with all the memory behind them and their sections.
func sameTasks(a, b tasks) bool {
	return slices.EqualFunc(a[:cap(a)], b[:cap(b)], func(x, y api.Task) bool {
		return x.C == y.C && x.D == y.D && x.T == y.T && slices.Equal(x.Secs[:cap(x.Secs)], y.Secs[:cap(y.Secs)])
	})
}

// behind returns a list in new memory, in which some lies behind it, too.
func behind[E any](l []E, more ...E) []E {
	memory := make([]E, 0, len(l)+len(more))
	return append(append(memory, l...), more...)[:len(l)]
}

// whole returns all the memory of a list, also what lies behind it.
func whole[E any](l []E) []E {
	return l[:cap(l)]
}

// given is what the calls of one case are given.
type given struct {
	l     tasks
	lasts []int
	list  asks
	i, at int
}

// cases returns valid arguments and others: May is OK, ErrEarly or ErrArg, and there are requests of all kinds, or none.
func cases() []given {
	r := rand.New(rand.NewSource(21))
	var out []given
	for k, l := range append(wrongTasks(), nil, some(), some()[:3], some()[:1]) {
		for _, lasts := range [][]int{nil, never(len(l)), never(len(l) + 1), slices.Repeat([]int{7}, len(l)), slices.Repeat([]int{api.MaxNum}, len(l)), slices.Repeat([]int{-2}, len(l))} {
			for _, x := range []struct{ i, at int }{{0, 0}, {0, 12}, {2, 15}, {2, 16}, {len(l) - 1, 300}, {len(l), 3}, {-1, 3}, {0, -1}, {1, lastTick}, {1, lastTick + 1}} {
				out = append(out, given{l, lasts, mixed(r, x.i+5, k%4), x.i, x.at}, given{l, lasts, nil, x.i, x.at})
			}
		}
	}
	return out
}

// R3: no call changes its arguments, nor what lies behind them.
func TestArgumentsDoNotChange(t *testing.T) {
	for _, x := range cases() {
		l, before := copied(x.l), copied(x.l)
		lasts, list := behind(x.lasts, -8, -9), behind(x.list, police.Ask{Task: 55}, police.Ask{At: 56})
		lastsBefore, listBefore := slices.Clone(whole(lasts)), slices.Clone(whole(list))
		call(l, lasts, list, x.i, x.at)
		if !sameTasks(l, before) || !slices.Equal(whole(lasts), lastsBefore) || !slices.Equal(whole(list), listBefore) {
			t.Errorf("a call with %v changed its arguments: %v, %v, %v", x, l, whole(lasts), whole(list))
		}
	}
}

// R3, R4: no call keeps what it is given: after other calls, and after a change in the same memory, the results are those of new memory.
func TestNothingIsKept(t *testing.T) {
	tasksMemory, lastsMemory, listMemory := make(tasks, 32), make([]int, 32), make(asks, 32)
	all := cases()
	for n, x := range all {
		want := call(copied(x.l), slices.Clone(x.lasts), slices.Clone(x.list), x.i, x.at)
		y := all[(n+1)%len(all)]
		call(y.l, y.lasts, y.list, y.i, y.at)
		l := tasksMemory[:copy(tasksMemory, x.l)]
		for range 2 {
			got := call(l, lastsMemory[:copy(lastsMemory, x.lasts)], listMemory[:copy(listMemory, x.list)], x.i, x.at)
			if !got.equal(want) {
				t.Errorf("%v: %v, and before %v", x, got, want)
			}
		}
	}
}

// overwrite writes another element to all the memory of a list.
func overwrite[E any](l []E, other E) {
	for i := range whole(l) {
		whole(l)[i] = other
	}
}

// R3: results are new memory, spare capacity included, with an error, too: what is written there changes neither arguments nor other results.
func TestResultsAreNewMemory(t *testing.T) {
	for _, x := range cases() {
		l, before := copied(x.l), copied(x.l)
		lasts, list := behind(x.lasts, -8, -9), behind(x.list, police.Ask{Task: 55}, police.Ask{At: 56})
		lastsBefore, listBefore := slices.Clone(whole(lasts)), slices.Clone(whole(list))
		want, first, second := call(x.l, x.lasts, x.list, x.i, x.at), call(l, lasts, list, x.i, x.at), call(l, lasts, list, x.i, x.at)
		overwrite(first.lasts, -77)
		overwrite(first.filter, true)
		third := call(l, lasts, list, x.i, x.at)
		overwrite(third.filter, false)
		if !second.equal(want) || !sameTasks(l, before) || !slices.Equal(whole(lasts), lastsBefore) || !slices.Equal(whole(list), listBefore) {
			t.Errorf("a change of a result of %v is seen elsewhere", x)
		}
		if fourth := call(l, lasts, list, x.i, x.at); !fourth.equal(want) {
			t.Errorf("a change of a result of %v changed the next one", x)
		}
		overwrite(lasts, -78)
		overwrite(list, police.Ask{Task: 57})
		if !second.equal(want) {
			t.Errorf("a change of the arguments %v is seen in a result", x)
		}
	}
}

// R3: what lies behind no last releases does not come back as spare capacity.
func TestNoteOfNothingWithMemoryBehind(t *testing.T) {
	memory := []int{1, 2}
	for _, l := range []tasks{nil, some()} {
		after, err := police.Note(l, memory[:0], 0, 5)
		if len(after) > 0 || err != api.ErrArg {
			t.Errorf("Note of no last releases: %v, %d", after, err)
		}
		_ = append(after, 3)
		if memory[0] != 1 {
			t.Error("Note of no last releases returns the memory behind them")
		}
	}
}

// R3: a nil list and an empty one are the same.
func TestNoListAndAnEmptyOne(t *testing.T) {
	for _, x := range cases() {
		want := call(x.l, x.lasts, x.list, x.i, x.at)
		l, lasts, list := append(tasks{}, x.l...), append([]int{}, x.lasts...), append(asks{}, x.list...)
		for i := range l {
			if len(l[i].Secs) == 0 {
				l[i].Secs = []api.Sec{}
			}
		}
		if got := call(l, lasts, list, x.i, x.at); !got.equal(want) {
			t.Errorf("%v with empty lists: %v, and with none %v", x, got, want)
		}
	}
}

// R1: lists far beyond the limits, and any numbers.
func TestEveryCallReturns(t *testing.T) {
	for _, a := range ends() {
		for _, b := range ends() {
			for _, c := range ends() {
				check(t, some()[:1], []int{a}, b, c)
				check(t, some()[:1], []int{a}, 0, b)
				check(t, some()[:2], []int{a, b}, 0, c)
				check(t, some()[:2], []int{a, b}, 1, c)
				x := api.Task{C: a, D: b, T: c, Secs: []api.Sec{{Res: a, At: b, Len: c}, {Res: c, At: a, Len: b}}}
				check(t, tasks{x}, []int{a}, 0, b)
				checkFilter(t, tasks{x}, asks{{At: a}, {At: b}})
				checkFilter(t, some(), asks{{At: a}, {At: b}, {At: c}, {Task: a, At: b}, {Task: 1, At: b}, {Task: 1, At: c}})
			}
		}
	}
	many := make([]int, 1<<16)
	refused(t, some(), many, 3, 5, api.ErrArg)
	refused(t, slices.Repeat(some(), 1<<12), many, 3, 5, api.ErrArg)
	refused(t, tasks{{C: 5, D: 7, T: 9, Secs: slices.Repeat([]api.Sec{{Res: 0, At: 0, Len: 1}}, 1<<16)}}, []int{-1}, 0, 5, api.ErrArg)
	r := rand.New(rand.NewSource(22))
	for kind := range 4 {
		list := mixed(r, 1<<16, kind)
		checkFilter(t, some(), list)
		checkFilter(t, slices.Repeat(some(), 1<<8), list)
	}
}
