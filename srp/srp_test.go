package srp_test

import (
	"math"
	"math/rand"
	"slices"
	"testing"

	"remontoir/api"
	"remontoir/job"
	"remontoir/srp"
	"remontoir/task"
)

type (
	tasks = []api.Task
	jobs  = []api.Job
)

// lastAt is the last tick at which a job may be released.
const lastAt = api.MaxNum - api.MaxTime

// ends returns the numbers at the ends of int, and at what is promised of numbers.
func ends() []int {
	return []int{math.MinInt, math.MinInt + 1, -api.MaxNum - 1, -1, 0, 1, 1<<32 + 1, lastAt, lastAt + 1, api.MaxNum, api.MaxNum + 1, math.MaxInt - 1, math.MaxInt}
}

// shared returns tasks with different times, some of them with sections.
// Their levels are 5, 6, 2, 7, 1, 2, 4, 2, and the ceilings of the resources 5, 5, 2, 2.
func shared() tasks {
	return tasks{
		{C: 5, D: 7, T: 9, Secs: []api.Sec{{Res: 0, At: 1, Len: 3}, {Res: 1, At: 2, Len: 1}}},
		{C: 2, D: 4, T: 4},
		{C: 9, D: 9, T: 12, Secs: []api.Sec{{Res: 3, At: 0, Len: 9}, {Res: 2, At: 0, Len: 8}, {Res: 1, At: 2, Len: 5}, {Res: 0, At: 3, Len: 3}}},
		{C: 1, D: 1, T: 1},
		{C: 200, D: 200, T: 200, Secs: []api.Sec{{Res: 2, At: 197, Len: 3}}},
		{C: 3, D: 9, T: 10, Secs: []api.Sec{{Res: 1, At: 0, Len: 2}}},
		{C: 4, D: 8, T: 8},
		{C: 6, D: 9, T: 9},
	}
}

// wrongTasks returns lists of tasks that are not valid: because of one of them, the last or the first one, or because there are too many.
func wrongTasks() []tasks {
	var out []tasks
	for _, bad := range []api.Task{
		{}, {C: 3, D: 2, T: 4}, {C: 1, D: 3, T: 2}, {C: 1, D: 1, T: 201}, {C: -1, D: 1, T: 1},
		{C: 3, D: 3, T: 3, Secs: []api.Sec{{Res: 4, At: 0, Len: 1}}}, {C: 3, D: 3, T: 3, Secs: []api.Sec{{Res: 0, At: 2, Len: 2}}},
		{C: math.MaxInt, D: math.MaxInt, T: math.MaxInt}, {C: math.MinInt, D: math.MinInt, T: math.MinInt},
	} {
		out = append(out, append(shared()[:6:6], bad), append(tasks{bad}, shared()[:6]...))
	}
	return append(out, append(shared(), shared()[0]), slices.Repeat(shared(), 3), slices.Repeat(tasks{{C: 2, D: 4, T: 6}}, api.MaxTasks+1))
}

// of returns a job of a task of shared, released at a tick, with the Due that belongs to it; it has begun if it has had ticks.
func of(task, at, want, had int) api.Job {
	return api.Job{Task: task, At: at, Due: at + shared()[task].D, Want: want, Had: had, Began: had > 0}
}

// begun returns the same job, but it has begun.
func begun(j api.Job) api.Job {
	j.Began = true
	return j
}

// precedes is the document's word.
func precedes(a, b api.Job) bool {
	return slices.Compare([]int{a.Due, a.Task, a.At}, []int{b.Due, b.Task, b.At}) < 0
}

// preceded reports whether another job that counts precedes j.
func preceded(list jobs, j api.Job, began bool) bool {
	return slices.ContainsFunc(list, func(k api.Job) bool { return k.Began == began && precedes(k, j) })
}

// modelHeld returns what the jobs that have begun hold.
func modelHeld(l tasks, list jobs) []int {
	var held []int
	for _, j := range list {
		for _, s := range l[j.Task].Secs {
			if j.Began && s.At < j.Had && j.Had < s.At+s.Len {
				held = append(held, s.Res)
			}
		}
	}
	return held
}

// modelPasses reports whether each task that uses a held resource has a greater D than task i, that is, a lower level.
func modelPasses(l tasks, i int, held []int) bool {
	for _, t := range l {
		for _, s := range t.Secs {
			if slices.Contains(held, s.Res) && t.D <= l[i].D {
				return false
			}
		}
	}
	return true
}

// begins reports whether j, which has not begun, is the job that runs.
func begins(l tasks, list jobs, j api.Job) bool {
	if j.Began || preceded(list, j, false) {
		return false
	}
	for _, k := range list {
		if k.Began && !precedes(j, k) {
			return false
		}
	}
	return modelPasses(l, j.Task, modelHeld(l, list))
}

// modelChoose asks of each job whether it is the one that runs.
func modelChoose(l tasks, list jobs) int {
	if !job.All(l, list) {
		return -1
	}
	if i := slices.IndexFunc(list, func(j api.Job) bool { return begins(l, list, j) }); i >= 0 {
		return i
	}
	return slices.IndexFunc(list, func(j api.Job) bool { return j.Began && !preceded(list, j, true) })
}

// modelTick is the document's word.
func modelTick(l tasks, list jobs) (jobs, api.Job, bool) {
	var after jobs
	var ran api.Job
	over := false
	chosen := modelChoose(l, list)
	for i, j := range list {
		if i == chosen {
			ran = api.Job{Task: j.Task, At: j.At, Due: j.Due, Want: j.Want, Had: j.Had + 1, Began: true}
			over = ran.Had == ran.Want || ran.Had == l[ran.Task].C
			j = ran
		}
		if i != chosen || !over {
			after = append(after, j)
		}
	}
	return after, ran, over
}

// check checks both calls for tasks and jobs, valid or not.
func check(t *testing.T, l tasks, list jobs) {
	t.Helper()
	if got, want := srp.Choose(l, list), modelChoose(l, list); got != want {
		t.Errorf("Choose(%v, %+v): %d, want %d", l, list, got, want)
	}
	after, ran, over := srp.Tick(l, list)
	wantAfter, wantRan, wantOver := modelTick(l, list)
	if !slices.Equal(after, wantAfter) || ran != wantRan || over != wantOver {
		t.Errorf("Tick(%v, %+v): %+v, %+v, %v, want %+v, %+v, %v", l, list, after, ran, over, wantAfter, wantRan, wantOver)
	}
}

// P15.1: the edges that decide which job runs.
func TestChoose(t *testing.T) {
	for _, x := range []struct {
		name string
		list jobs
		want int
	}{
		{"no jobs", nil, -1},
		{"no jobs in a list", jobs{}, -1},
		{"one that has not begun", jobs{of(4, 7, 9, 0)}, 0},
		{"one that has begun", jobs{of(4, 7, 9, 8)}, 0},
		{"none that has begun, the first one last", jobs{of(4, 0, 1, 0), of(0, 9, 1, 0), of(1, 8, 1, 0)}, 2},
		{"none that has begun, the first one first", jobs{of(1, 8, 1, 0), of(0, 9, 1, 0), of(4, 0, 1, 0)}, 0},
		{"none that has begun, the same Due", jobs{of(2, 0, 1, 0), of(0, 2, 1, 0), of(1, 5, 1, 0)}, 1},
		{"none that has begun, the same task", jobs{of(1, 9, 1, 0), of(1, 3, 1, 0), of(1, 5, 1, 0)}, 1},
		{"all have begun, the first one last", jobs{of(4, 0, 9, 1), of(6, 0, 9, 1), of(1, 0, 9, 1)}, 2},
		{"all have begun, the first one in between", jobs{of(4, 0, 9, 1), of(1, 0, 9, 1), of(6, 0, 9, 1)}, 1},
		{"all have begun, the first one holds nothing, another one does", jobs{of(2, 0, 9, 4), of(1, 0, 9, 1)}, 1},
		{"all have begun, the same Due", jobs{of(7, 0, 9, 1), of(5, 0, 9, 1), of(0, 2, 9, 4)}, 2},

		{"precedes by Due", jobs{of(6, 1, 9, 1), of(6, 0, 9, 0)}, 1},
		{"does not precede by Due", jobs{of(6, 0, 9, 1), of(6, 1, 9, 0)}, 0},
		{"precedes by Due, a later task", jobs{of(0, 3, 9, 1), of(6, 1, 9, 0)}, 1},
		{"does not precede by Due, an earlier task", jobs{of(6, 1, 9, 1), of(0, 3, 9, 0)}, 0},
		{"precedes by Task", jobs{of(7, 0, 9, 1), of(6, 1, 9, 0)}, 1},
		{"does not precede by Task", jobs{of(6, 1, 9, 1), of(7, 0, 9, 0)}, 0},
		{"precedes by Task, a later At", jobs{of(1, 5, 9, 1), of(0, 2, 9, 0)}, 1},
		{"does not precede by Task, an earlier At", jobs{of(0, 2, 9, 1), of(1, 5, 9, 0)}, 0},
		{"precedes by At, of the same task", jobs{of(7, 6, 9, 5), of(7, 5, 9, 0)}, 1},
		{"does not precede by At, of the same task", jobs{of(7, 5, 9, 5), of(7, 6, 9, 0)}, 0},
		{"is before another one alone that has begun", jobs{of(4, 0, 9, 1), of(6, 1, 9, 0), of(6, 0, 9, 1)}, 2},
		{"another one that has not begun is not asked", jobs{of(6, 0, 9, 1), of(0, 9, 9, 0), of(1, 9, 9, 0)}, 0},

		{"holds nothing", jobs{of(2, 0, 9, 0), of(7, 0, 9, 3), of(1, 0, 9, 0)}, 2},
		{"holds nothing, and the level is the same", jobs{of(7, 0, 9, 3), of(5, 0, 9, 0)}, 1},
		{"holds nothing, and the level is the lowest", jobs{of(4, 201, 9, 5), of(4, 1, 9, 0)}, 1},
		{"began without a tick", jobs{begun(of(5, 0, 9, 0)), of(0, 1, 9, 0)}, 1},
		{"began without a tick, and goes on", jobs{of(0, 9, 9, 0), begun(of(5, 0, 9, 0))}, 1},
		{"began without a tick, ahead of another one that has begun", jobs{of(1, 5, 9, 1), begun(of(0, 1, 9, 0))}, 1},

		{"holds a resource: the level is that of the ceiling", jobs{of(5, 0, 9, 1), of(0, 0, 9, 0)}, 0},
		{"holds a resource: the level is one above the ceiling", jobs{of(5, 0, 9, 1), of(1, 0, 9, 0)}, 1},
		{"holds a resource: the level is one below the ceiling", jobs{of(5, 0, 9, 1), of(6, 0, 9, 0)}, 0},
		{"holds a resource: the level is far above the ceiling", jobs{of(5, 0, 9, 1), of(3, 0, 9, 0)}, 1},
		{"holds a resource: the level is far below the ceiling", jobs{of(0, 300, 9, 2), of(4, 0, 9, 0)}, 0},
		{"holds a resource no more: the same levels", jobs{of(5, 0, 9, 2), of(0, 0, 9, 0)}, 1},
		{"a low ceiling: the level is that of the ceiling", jobs{of(2, 9, 9, 1), of(7, 0, 9, 0)}, 0},
		{"a low ceiling: the level is one below the ceiling", jobs{of(2, 300, 9, 1), of(4, 0, 9, 0)}, 0},
		{"a low ceiling: the level is above the ceiling", jobs{of(2, 9, 9, 1), of(6, 0, 9, 0)}, 1},
		{"a low ceiling, of the last of three sections", jobs{of(4, 0, 200, 198), of(7, 0, 9, 0)}, 0},
		{"holds several: the greatest ceiling counts", jobs{of(2, 9, 9, 4), of(0, 0, 9, 0)}, 0},
		{"holds several: the greatest ceiling counts, one below", jobs{of(2, 9, 9, 4), of(6, 0, 9, 0)}, 0},
		{"holds several: the greatest ceiling counts, one above", jobs{of(2, 9, 9, 4), of(1, 0, 9, 0)}, 1},
		{"several hold: one that is not first has the greatest ceiling", jobs{of(2, 9, 9, 3), of(7, 0, 9, 2), of(0, 0, 9, 0)}, 1},
		{"several hold: one that is not first lets pass", jobs{of(2, 9, 9, 2), of(7, 0, 9, 2), of(6, 0, 9, 0)}, 2},

		{"the first one does not pass, another one would", jobs{of(5, 9, 9, 1), of(0, 0, 9, 0), of(1, 4, 9, 0)}, 0},
		{"the first one does not pass, two that have begun", jobs{of(5, 9, 9, 1), of(6, 9, 9, 1), of(0, 0, 9, 0)}, 1},
		{"the first one passes, and uses what nobody holds", jobs{of(4, 0, 200, 198), of(0, 0, 9, 0)}, 1},
		{"the last tick", jobs{of(5, lastAt, 9, 1), of(1, lastAt, 9, 0), of(0, lastAt, 9, 0)}, 1},
	} {
		if !job.All(shared(), x.list) {
			t.Errorf("%s: the jobs are not valid", x.name)
		}
		if got := srp.Choose(shared(), x.list); got != x.want {
			t.Errorf("%s: Choose(%+v): %d, want %d", x.name, x.list, got, x.want)
		}
		check(t, shared(), x.list)
	}
}

// P15.2: a tick after which Had is C, or what the job wants, or both, or below.
func TestTickFinishes(t *testing.T) {
	for _, x := range []struct {
		task, want, had int
		over            bool
	}{
		{0, 200, 4, true}, {0, 6, 4, true}, {0, 200, 3, false}, {0, 6, 3, false}, {0, 200, 0, false},
		{0, 4, 3, true}, {0, 4, 2, false}, {0, 1, 0, true}, {0, 2, 0, false}, {0, 2, 1, true},
		{0, 5, 4, true}, {0, 5, 3, false}, {0, 5, 0, false},
		{3, 1, 0, true}, {3, 200, 0, true}, {1, 2, 0, false}, {1, 2, 1, true}, {1, 3, 1, true},
		{4, 200, 199, true}, {4, 200, 198, false}, {4, 199, 198, true}, {4, 199, 197, false}, {4, 200, 0, false},
	} {
		for _, j := range (jobs{of(x.task, 3, x.want, x.had), begun(of(x.task, lastAt, x.want, x.had))}) {
			after, ran, over := srp.Tick(shared(), jobs{j})
			want := begun(j)
			want.Had = x.had + 1
			if ran != want || over != x.over || over != (len(after) == 0) || !over && after[0] != want {
				t.Errorf("Tick of %+v: %+v, %+v, %v", j, after, ran, over)
			}
			check(t, shared(), jobs{j})
		}
	}
}

// P15.2: the job that runs is first, last and in between, is finished or not; the others stay as they are, in order.
func TestTickKeepsTheOthers(t *testing.T) {
	for n := range api.MaxJobs {
		var others jobs
		for i := range n {
			others = append(others, of(i*5%8, 500-i, 9, i%2*(i*5%8+1)%2))
		}
		for i := range n + 1 {
			for _, j := range (jobs{of(3, 0, 1, 0), of(1, 0, 9, 1), of(1, 0, 9, 0), of(0, 0, 9, 2)}) {
				list := slices.Insert(slices.Clone(others), i, j)
				after, ran, over := srp.Tick(shared(), list)
				want := slices.Clone(others)
				if !over {
					want = slices.Insert(want, i, ran)
				}
				if srp.Choose(shared(), list) != i || !slices.Equal(after, want) || ran.Had != j.Had+1 || ran.Task != j.Task || over != (j.Task == 3 || j.Task == 1 && j.Had == 1) {
					t.Fatalf("Tick(%+v) with %+v at %d of %d: %+v, %+v, %v", list, j, i, n+1, after, ran, over)
				}
				check(t, shared(), list)
			}
		}
	}
}

// wrong returns jobs that are not valid.
func wrong() jobs {
	return jobs{
		{}, {Task: -1, At: 0, Due: 7, Want: 1}, {Task: 8, At: 0, Due: 7, Want: 1}, {Task: 0, At: 0, Due: 8, Want: 1}, {Task: 0, At: 0, Due: 6, Want: 1}, {Task: 0, At: -1, Due: 6, Want: 1}, {Task: 0, At: lastAt + 1, Due: lastAt + 8, Want: 1},
		{Task: 0, At: 0, Due: 7}, {Task: 0, At: 0, Due: 7, Want: 201}, {Task: 0, At: 0, Due: 7, Want: 9, Had: 5, Began: true}, {Task: 0, At: 0, Due: 7, Want: 2, Had: 2, Began: true}, {Task: 0, At: 0, Due: 7, Want: 9, Had: -1}, {Task: 0, At: 0, Due: 7, Want: 9, Had: 1},
		{Task: math.MinInt, At: math.MinInt, Due: math.MinInt, Want: math.MinInt, Had: math.MinInt}, {Task: math.MaxInt, At: math.MaxInt, Due: math.MaxInt, Want: math.MaxInt, Had: math.MaxInt, Began: true},
	}
}

// full returns n different jobs, which are valid but for their number.
func full(n int) jobs {
	var out jobs
	for i := range n {
		out = append(out, of(i%3, 100-i/3, 2, i%2))
	}
	return out
}

// none checks that none of the jobs runs, and that they stay as they are.
func none(t *testing.T, l tasks, list jobs) {
	t.Helper()
	if got := srp.Choose(l, list); got != -1 {
		t.Errorf("Choose(%v, %+v): %d", l, list, got)
	}
	if after, ran, over := srp.Tick(l, list); !slices.Equal(after, list) || ran != (api.Job{}) || over {
		t.Errorf("Tick(%v, %+v): %+v, %+v, %v", l, list, after, ran, over)
	}
}

// P15.1, P15.2: jobs that are not valid, wherever the wrong one is, and whatever else would run.
func TestJobsThatAreNotValid(t *testing.T) {
	for _, n := range []int{1, 2, 5, api.MaxJobs} {
		for i := range n {
			for _, bad := range wrong() {
				list := full(n)
				list[i] = bad
				none(t, shared(), list)
			}
			if i > 0 {
				list := full(n)
				list[i] = list[0]
				none(t, shared(), list)
				list[i] = of(0, list[0].At, 5, 4)
				none(t, shared(), list)
			}
		}
	}
	for n := range api.MaxJobs + 4 {
		if n == 0 || n > api.MaxJobs {
			none(t, shared(), full(n))
		} else if i := srp.Choose(shared(), full(n)); i < 0 || i >= n {
			t.Errorf("Choose of %d jobs: %d", n, i)
		}
		check(t, shared(), full(n))
	}
}

// P15.1, P15.2: of tasks that are not valid none runs, though its own task may be valid.
func TestTasksThatAreNotValid(t *testing.T) {
	for _, l := range wrongTasks() {
		for i := range l {
			none(t, l, jobs{{Task: i, Due: l[i].D, Want: 1}})
			none(t, l, jobs{{Task: i, Due: l[i].D, Want: 200, Had: 1, Began: true}})
		}
		none(t, l, nil)
		none(t, l, full(3))
	}
	for _, l := range []tasks{nil, {}} {
		for _, list := range []jobs{nil, {}, {{}}, {{Due: 1, Want: 1}}, full(3)} {
			none(t, l, list)
		}
	}
	none(t, shared()[:2], jobs{of(1, 0, 1, 0), of(2, 0, 1, 0)})
}

// few returns some jobs, valid ones and others, many with the same Due.
func few() jobs {
	return jobs{
		of(0, 2, 5, 0), of(0, 2, 5, 3), of(0, 0, 4, 2), of(1, 5, 1, 0), of(1, 5, 2, 1), of(1, 3, 2, 0), of(2, 0, 200, 4), of(2, 0, 9, 8), of(3, 8, 1, 0), of(4, 2, 199, 198), of(5, 0, 200, 1), of(5, 2, 1, 0), of(6, 1, 9, 0), of(6, 0, 9, 2), of(7, 0, 9, 5), of(7, 0, 9, 0),
		begun(of(0, 2, 3, 0)), begun(of(7, 1, 1, 0)), of(2, 2, 3, 0), {Task: -1, At: 2, Due: 9}, {Task: 0, At: 3, Due: 9, Want: 1},
	}
}

// P15.1, P15.2: all lists of up to three of some jobs, and of up to five of fewer, also with the same one twice.
func TestAsDescribed(t *testing.T) {
	var walk func(pool, list jobs, n int)
	walk = func(pool, list jobs, n int) {
		check(t, shared(), list)
		if n == 0 {
			return
		}
		for _, j := range pool {
			walk(pool, append(slices.Clip(list), j), n-1)
		}
	}
	walk(few(), nil, 3)
	walk(jobs{of(1, 5, 1, 0), of(0, 2, 5, 0), of(2, 0, 9, 4), of(5, 0, 9, 1), of(6, 1, 9, 2)}, nil, 5)
}

// mixed returns a list of jobs by chance: of valid ones with different At, few of which have begun, or many; or with numbers out of few, or with numbers at the ends of int.
func mixed(r *rand.Rand, n, kind int) jobs {
	var out jobs
	shift := r.Intn(41)
	for i := range n {
		switch kind {
		case 0, 1:
			task, want, had := r.Intn(len(shared())), 1+r.Intn(12), 0
			if r.Intn(4) < 1+2*kind {
				had = r.Intn(min(want, shared()[task].C))
			}
			if task == 4 && had > 0 {
				want, had = 200, 190+had%10
			}
			out = append(out, of(task, (17*i+shift)%41, want, had)) // up to 41 of them are different
		case 2:
			out = append(out, api.Job{Task: r.Intn(9) - 1, At: r.Intn(3), Due: r.Intn(10), Want: i, Had: r.Intn(3), Began: r.Intn(2) == 0})
		default:
			at := func() int { return ends()[r.Intn(len(ends()))] }
			out = append(out, api.Job{Task: at(), At: at(), Due: at(), Want: at(), Had: i, Began: r.Intn(2) == 0})
		}
	}
	return out
}

// P15.1, P15.2, P15.4: lists by chance; while there are valid jobs, one of them runs.
func TestAsDescribedByChance(t *testing.T) {
	r := rand.New(rand.NewSource(15))
	counts := map[string]int{}
	for k := range 12000 {
		list := mixed(r, r.Intn(6+k%36), k%4)
		check(t, shared(), list)
		i := srp.Choose(shared(), list)
		if !job.All(shared(), list) || len(list) == 0 {
			counts["none"]++
			continue
		}
		if i < 0 {
			t.Errorf("none of %+v runs", list)
		}
		counts[kindOf(list, i)]++
	}
	for _, kind := range []string{"none", "the first to begin", "begins ahead", "goes on", "goes on, one does not pass", "goes on, none waits"} {
		if counts[kind] < 100 {
			t.Errorf("too few of a kind: %v", counts)
		}
	}
}

// kindOf names the reason why the job at i runs.
func kindOf(list jobs, i int) string {
	fresh, on := job.First(list, false), job.First(list, true)
	switch {
	case on == -1:
		return "the first to begin"
	case i == fresh:
		return "begins ahead"
	case fresh == -1:
		return "goes on, none waits"
	case precedes(list[fresh], list[on]):
		return "goes on, one does not pass"
	}
	return "goes on"
}

// a run is what has happened to jobs by ticks and new jobs alone, since there were none.
type run struct {
	l     tasks
	list  jobs
	stack jobs // those that have begun, in the order in which they began
	kinds map[string]int
}

// tick gives a tick, and checks what follows from the promises.
func (x *run) tick(t *testing.T) {
	t.Helper()
	held := job.Held(x.l, x.list)
	i := srp.Choose(x.l, x.list)
	after, ran, over := srp.Tick(x.l, x.list)
	if (i >= 0) != (len(x.list) > 0) { // P15.4
		t.Fatalf("%v: of %+v %d runs", x.l, x.list, i)
	}
	if i < 0 {
		return
	}
	x.kinds[kindOf(x.list, i)]++
	if !x.list[i].Began {
		x.begin(t, ran, held)
	}
	top := len(x.stack) - 1
	if last := x.stack[top]; last.Task != ran.Task || last.At != ran.At {
		t.Fatalf("%v: of %+v %+v runs, and not the last one that began, %+v", x.l, x.list, ran, last)
	}
	if over {
		x.stack = x.stack[:top]
	}
	x.list = after
	x.hold(t)
}

// begin checks that one that begins precedes all that have begun (P15.5), and needs nothing that is held (P15.3).
func (x *run) begin(t *testing.T, j api.Job, held []int) {
	t.Helper()
	for _, earlier := range x.stack {
		if !job.Ahead(j, earlier) {
			t.Fatalf("%v: %+v began after %+v", x.l, j, earlier)
		}
	}
	for _, res := range held {
		if task.Uses(x.l[j.Task], res) {
			t.Fatalf("%v: %+v began, and needs resource %d of %v, which are held", x.l, j, res, held)
		}
	}
	if len(held) > 0 {
		x.kinds["begins while something is held"]++
	}
	x.stack = append(x.stack[:len(x.stack):len(x.stack)], j)
}

// hold checks that the jobs are valid, and that what they hold is different (P15.3).
func (x *run) hold(t *testing.T) {
	t.Helper()
	held := job.Held(x.l, x.list)
	if len(x.list) > 0 && !job.All(x.l, x.list) {
		t.Fatalf("%v: after a tick not valid: %+v", x.l, x.list)
	}
	for i, res := range held {
		if slices.Contains(held[:i], res) {
			t.Fatalf("%v: held twice by %+v: %v", x.l, x.list, held)
		}
	}
	holders := 0
	for _, j := range x.list {
		if len(task.Held(x.l[j.Task], j.Had)) > 0 {
			holders++
		}
	}
	if holders > 1 {
		x.kinds["two hold something"]++
	}
}

// enough checks that there were enough runs of each kind.
func enough(t *testing.T, kinds map[string]int, most int) {
	t.Helper()
	for _, kind := range []string{"the first to begin", "begins ahead", "goes on", "goes on, one does not pass", "goes on, none waits", "begins while something is held", "two hold something"} {
		if kinds[kind] < most {
			t.Errorf("too few of a kind: %v", kinds)
		}
	}
}

// P15.3 to P15.5: each list of releases, one at a tick or none, within some ticks, of tasks that share resources.
func TestWhatFollows(t *testing.T) {
	kinds := map[string]int{}
	for _, l := range []tasks{
		{{C: 2, D: 3, T: 20, Secs: []api.Sec{{Res: 0, At: 1, Len: 1}}}, {C: 3, D: 6, T: 20, Secs: []api.Sec{{Res: 1, At: 0, Len: 3}}}, {C: 4, D: 9, T: 20, Secs: []api.Sec{{Res: 0, At: 0, Len: 3}}}},
		{{C: 3, D: 7, T: 7, Secs: []api.Sec{{Res: 0, At: 0, Len: 3}, {Res: 1, At: 1, Len: 2}}}, {C: 3, D: 6, T: 6, Secs: []api.Sec{{Res: 1, At: 0, Len: 2}}}, {C: 4, D: 5, T: 5, Secs: []api.Sec{{Res: 2, At: 1, Len: 3}}}},
		{{C: 1, D: 2, T: 2}, {C: 3, D: 4, T: 4, Secs: []api.Sec{{Res: 3, At: 0, Len: 3}}}, {C: 5, D: 9, T: 9, Secs: []api.Sec{{Res: 2, At: 0, Len: 4}, {Res: 1, At: 1, Len: 2}}}},
	} {
		var walk func(x run, now int)
		walk = func(x run, now int) {
			for i := -1; now < 6 && i < len(l); i++ {
				y := x
				if i >= 0 {
					y.list = append(slices.Clip(x.list), api.Job{Task: i, At: now, Due: now + l[i].D, Want: 1 + (i+now)%5})
				}
				y.tick(t)
				walk(y, now+1)
			}
			for range 6 * 5 * (now / 6) { // no more ticks than the jobs can want
				x.tick(t)
			}
			if now == 6 && len(x.list) > 0 {
				t.Fatalf("%v: not finished: %+v", l, x.list)
			}
		}
		walk(run{l: l, kinds: kinds}, 0)
	}
	enough(t, kinds, 100)
}

// randomTask returns a valid task by chance.
func randomTask(r *rand.Rand) api.Task {
	for {
		d := 1 + r.Intn(12)
		t := api.Task{C: 1 + r.Intn(min(d, 8)), D: d, T: d + r.Intn(5)}
		for at := 0; at < t.C && len(t.Secs) < api.MaxSecs; at += r.Intn(3) {
			t.Secs = append(t.Secs, api.Sec{Res: r.Intn(api.MaxRes), At: at, Len: 1 + r.Intn(t.C-at)})
			if r.Intn(3) == 0 {
				break
			}
		}
		if task.Right(t) {
			return t
		}
	}
}

// P15.3 to P15.5: long runs by chance, of tasks by chance, also with new jobs that were released at any tick.
func TestWhatFollowsByChance(t *testing.T) {
	r := rand.New(rand.NewSource(16))
	kinds := map[string]int{}
	for k := range 400 {
		l := tasks{}
		for range 1 + r.Intn(api.MaxTasks) {
			l = append(l, randomTask(r))
		}
		x := run{l: l, kinds: kinds}
		for now := range 200 {
			i, at := r.Intn(len(l)), now
			if k%2 == 1 {
				at = r.Intn(400)
			}
			fresh := append(slices.Clip(x.list), api.Job{Task: i, At: at, Due: at + l[i].D, Want: 1 + r.Intn(9)})
			if r.Intn(3) > 0 && job.All(l, fresh) {
				x.list = fresh
			}
			x.tick(t)
		}
	}
	enough(t, kinds, 150)
}

// P15.4: jobs are finished after as many ticks as they have left, whatever their order is.
func TestAllJobsAreFinished(t *testing.T) {
	r := rand.New(rand.NewSource(17))
	for range 300 {
		list := mixed(r, 1+r.Intn(api.MaxJobs), r.Intn(2))
		left, done := 0, 0
		for _, j := range list {
			left += min(shared()[j.Task].C, j.Want) - j.Had
		}
		n := len(list)
		for range left {
			after, ran, over := srp.Tick(shared(), list)
			if over != (len(after) < len(list)) || ran.Had < 1 {
				t.Fatalf("Tick(%+v): %+v, %+v, %v", list, after, ran, over)
			}
			if over {
				done++
			}
			list = after
		}
		if len(list) > 0 || done != n {
			t.Errorf("after %d ticks %d of %d are finished: %+v", left, done, n, list)
		}
	}
}

// The example of the chapter: a job due at 20 that holds resource 0, and one due at 10 whose task uses 0.
func TestExample(t *testing.T) {
	l := tasks{{C: 5, D: 20, T: 20, Secs: []api.Sec{{Res: 0, At: 0, Len: 3}}}, {C: 2, D: 8, T: 8, Secs: []api.Sec{{Res: 0, At: 1, Len: 1}}}}
	list := jobs{{Task: 0, At: 0, Due: 20, Want: 5, Had: 1, Began: true}, {Task: 1, At: 2, Due: 10, Want: 2}}
	for n, want := range []struct {
		task, had int
		over      bool
	}{{0, 2, false}, {0, 3, false}, {1, 1, false}, {1, 2, true}, {0, 4, false}, {0, 5, true}} {
		if i := srp.Choose(l, list); i < 0 || list[i].Task != want.task {
			t.Fatalf("at %d: Choose(%+v): %d", n, list, i)
		}
		after, ran, over := srp.Tick(l, list)
		if ran.Task != want.task || ran.Had != want.had || over != want.over {
			t.Fatalf("at %d: Tick(%+v): %+v, %+v, %v", n, list, after, ran, over)
		}
		list = after
	}
	none(t, l, list)
}

// answers is what both calls return.
type answers struct {
	chosen int
	after  jobs
	ran    api.Job
	over   bool
}

func call(l tasks, list jobs) answers {
	after, ran, over := srp.Tick(l, list)
	return answers{srp.Choose(l, list), after, ran, over}
}

func (a answers) equal(b answers) bool {
	return a.chosen == b.chosen && slices.Equal(a.after, b.after) && a.ran == b.ran && a.over == b.over
}

// copied returns the tasks in new memory, that lies also behind them, with their sections in memory of its own.
func copied(l tasks) tasks {
	out := make(tasks, len(l), len(l)+2)
	for i, t := range l {
		out[i] = t
		out[i].Secs = append(make([]api.Sec, 0, len(t.Secs)+1), t.Secs...)
		out[i].Secs = append(out[i].Secs, api.Sec{Res: 9, At: 9, Len: 9})[:len(t.Secs)]
	}
	return append(out, api.Task{C: 7}, api.Task{D: 7})[:len(l)]
}

// sameTasks reports whether tasks are equal, with all the memory behind them and their sections.
func sameTasks(a, b tasks) bool {
	return slices.EqualFunc(a[:cap(a)], b[:cap(b)], func(x, y api.Task) bool {
		return x.C == y.C && x.D == y.D && x.T == y.T && slices.Equal(x.Secs[:cap(x.Secs)], y.Secs[:cap(y.Secs)])
	})
}

// some returns lists of jobs, valid and not, of which none runs, one that is finished by it, or one that is not.
func some() []jobs {
	out := []jobs{nil, few()[:1], few(), full(api.MaxJobs), full(api.MaxJobs + 1), wrong(), {of(3, 0, 1, 0)}, {of(2, 0, 9, 4), of(0, 0, 5, 3), of(1, 0, 2, 1)}, {of(1, 0, 2, 1), of(2, 0, 9, 4), of(0, 0, 5, 3)}}
	r := rand.New(rand.NewSource(5))
	for k := range 40 {
		out = append(out, mixed(r, r.Intn(34), k%4))
	}
	return out
}

// R3: no call changes its arguments, nor what lies behind them.
func TestArgumentsDoNotChange(t *testing.T) {
	for _, l := range append(wrongTasks(), nil, shared()) {
		for _, list := range some() {
			given, before := copied(l), copied(l)
			memory := append(append(make(jobs, 0, len(list)+2), list...), api.Job{Due: -5}, api.Job{Due: -6})
			jobsBefore := slices.Clone(memory)
			call(given, memory[:len(list)])
			if !sameTasks(given, before) || !slices.Equal(memory, jobsBefore) {
				t.Errorf("a call changed its arguments: %v and %v to %v and %v", before, jobsBefore, given, memory)
			}
		}
	}
}

// R3, R4: no call keeps what it is given: after other calls, and after a change in the same memory, the results are those of new memory.
func TestNothingIsKept(t *testing.T) {
	memory, tasksMemory := make(jobs, 64), make(tasks, 32)
	all, lists := some(), append(wrongTasks(), shared(), nil)
	for n, list := range all {
		for k, l := range lists {
			want := call(copied(l), slices.Clone(list))
			call(lists[(k+1)%len(lists)], all[(n+1)%len(all)])
			given := tasksMemory[:copy(tasksMemory, l)]
			for range 2 {
				if got := call(given, memory[:copy(memory, list)]); !got.equal(want) {
					t.Errorf("%v, %+v: %+v, and before %+v", l, list, got, want)
				}
			}
		}
	}
}

// R3: results are new memory, spare capacity included: what is written there changes neither arguments nor other results.
func TestResultsAreNewMemory(t *testing.T) {
	for _, list := range some() {
		memory := append(append(make(jobs, 0, len(list)+2), list...), api.Job{Due: -5}, api.Job{Due: -6})
		given, before := memory[:len(list)], slices.Clone(memory)
		l, tasksBefore := copied(shared()), copied(shared())
		want, first, second := call(shared(), slices.Clone(list)), call(l, given), call(l, given)
		for i := range first.after[:cap(first.after)] {
			first.after[:cap(first.after)][i] = api.Job{Due: -77}
		}
		if !second.equal(want) || !slices.Equal(memory, before) || !sameTasks(l, tasksBefore) {
			t.Errorf("a change of a result of %+v is seen elsewhere", list)
		}
		if third := call(l, given); !third.equal(want) {
			t.Errorf("a change of a result of %+v changed the next one", list)
		}
		for i := range memory {
			memory[i] = api.Job{Due: -78}
		}
		if !second.equal(want) {
			t.Errorf("a change of the argument %+v is seen in a result", list)
		}
	}
}

// R3: what lies behind no jobs does not come back as spare capacity.
func TestTickOfNoJobWithMemoryBehind(t *testing.T) {
	memory := jobs{{Due: 1}, {Due: 2}}
	after, _, _ := srp.Tick(shared(), memory[:0])
	if len(after) > 0 {
		t.Errorf("Tick of no job: %+v", after)
	}
	_ = append(after, api.Job{Due: 3})
	if memory[0].Due != 1 {
		t.Error("Tick of no job returns the memory behind it")
	}
}

// R3: a nil list and an empty one are the same.
func TestNoListAndAnEmptyOne(t *testing.T) {
	for _, l := range []tasks{nil, {}, shared()} {
		if a, b := call(l, nil), call(l, jobs{}); !a.equal(b) || a.chosen != -1 || len(a.after) > 0 || a.ran != (api.Job{}) || a.over {
			t.Errorf("no jobs of %v: %+v and %+v", l, a, b)
		}
	}
	for _, list := range some() {
		empty := shared()
		for i := range empty {
			if len(empty[i].Secs) == 0 {
				empty[i].Secs = []api.Sec{}
			}
		}
		if a, b := call(shared(), list), call(empty, list); !a.equal(b) {
			t.Errorf("%+v: %+v and %+v", list, a, b)
		}
		if a, b := call(nil, list), call(tasks{}, list); !a.equal(b) {
			t.Errorf("%+v of no tasks: %+v and %+v", list, a, b)
		}
	}
}

// R1: lists far beyond the limits, and any structs.
func TestEveryCallReturns(t *testing.T) {
	r := rand.New(rand.NewSource(6))
	none(t, shared(), mixed(r, 1<<16, 3))
	none(t, shared(), slices.Repeat(jobs{of(0, 0, 5, 3)}, 1<<16))
	none(t, slices.Repeat(shared(), 1<<12), jobs{of(0, 0, 5, 3)})
	secs := slices.Repeat([]api.Sec{{Res: 0, At: 0, Len: 1}}, 1<<16)
	none(t, tasks{{C: 5, D: 7, T: 9, Secs: secs}}, jobs{of(0, 0, 5, 3)})
	for _, a := range ends() {
		for _, b := range ends() {
			for _, c := range ends() {
				x := api.Task{C: a, D: b, T: c, Secs: []api.Sec{{Res: a, At: b, Len: c}, {Res: c, At: a, Len: b}}}
				for _, j := range (jobs{{Task: 0, At: a, Due: b, Want: c, Had: a, Began: true}, {Task: a, At: b, Due: c, Want: 1}, {Task: 0, At: a, Due: a + b, Want: 1}}) {
					none(t, tasks{x}, jobs{j})
					none(t, shared(), jobs{of(1, 3, 2, 0), j})
				}
			}
		}
	}
}
