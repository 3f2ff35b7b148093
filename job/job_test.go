package job_test

import (
	"math"
	"math/rand"
	"slices"
	"testing"

	"remontoir/api"
	"remontoir/job"
)

type (
	tasks = []api.Task
	jobs  = []api.Job
)

// lastAt is the last tick at which a job may be released.
const lastAt = api.MaxNum - api.MaxTime

// ends returns the numbers at the ends of int, and at what is promised of numbers.
func ends() []int {
	return []int{math.MinInt, math.MinInt + 1, -api.MaxNum - 1, -1, 0, 1, 1<<32 + 1, lastAt, lastAt + 1, api.MaxNum, api.MaxNum + 1, math.MaxInt - 1, math.MaxInt}
}

// shared returns tasks with different times, some of them with sections.
func shared() tasks {
	return tasks{
		{C: 5, D: 7, T: 9, Secs: []api.Sec{{Res: 0, At: 1, Len: 3}, {Res: 1, At: 2, Len: 1}}},
		{C: 2, D: 4, T: 4},
		{C: 9, D: 9, T: 12, Secs: []api.Sec{{Res: 3, At: 0, Len: 9}, {Res: 2, At: 0, Len: 8}, {Res: 1, At: 2, Len: 5}, {Res: 0, At: 3, Len: 3}}},
		{C: 1, D: 1, T: 1},
		{C: 200, D: 200, T: 200, Secs: []api.Sec{{Res: 2, At: 198, Len: 2}}},
		{C: 3, D: 9, T: 10, Secs: []api.Sec{{Res: 1, At: 0, Len: 2}}},
	}
}

// wrongTasks returns lists of tasks that are not valid: because of one of them, the last or the first one, or because there are too many.
func wrongTasks() []tasks {
	var out []tasks
	for _, bad := range []api.Task{
		{}, {C: 3, D: 2, T: 4}, {C: 1, D: 3, T: 2}, {C: 1, D: 1, T: 201}, {C: -1, D: 1, T: 1},
		{C: 3, D: 3, T: 3, Secs: []api.Sec{{Res: 4, At: 0, Len: 1}}}, {C: 3, D: 3, T: 3, Secs: []api.Sec{{Res: 0, At: 2, Len: 2}}},
		{C: math.MaxInt, D: math.MaxInt, T: math.MaxInt}, {C: math.MinInt, D: math.MinInt, T: math.MinInt},
	} {
		out = append(out, append(shared(), bad), append(tasks{bad}, shared()...))
	}
	return append(out, append(append(shared(), shared()...), shared()...), slices.Repeat(tasks{{C: 2, D: 4, T: 6}}, api.MaxTasks+1))
}

// of returns a job of a task of shared, released at a tick, with the Due that belongs to it.
func of(task, at, want, had int) api.Job {
	return api.Job{Task: task, At: at, Due: at + shared()[task].D, Want: want, Had: had, Began: had > 0}
}

// validTask is the document's word, as far as tasks of these tests break it.
func validTask(t api.Task) bool {
	for _, s := range t.Secs {
		if s.Res < 0 || s.Res > 3 || s.At+s.Len > t.C {
			return false
		}
	}
	return t.C >= 1 && t.D >= t.C && t.T >= t.D && t.T <= 200
}

// modelRight is the document's word.
func modelRight(l tasks, j api.Job) bool {
	if len(l) > 8 || slices.ContainsFunc(l, func(t api.Task) bool { return !validTask(t) }) {
		return false
	}
	for i, t := range l {
		if i != j.Task {
			continue
		}
		released := j.At >= 0 && j.At <= lastAt && j.Due-j.At == t.D && j.Due > j.At
		unfinished := j.Had >= 0 && j.Had < t.C && j.Had < j.Want
		return released && unfinished && j.Want >= 1 && j.Want <= 200 && (j.Began || j.Had <= 0)
	}
	return false
}

// modelAll is the document's word.
func modelAll(l tasks, list jobs) bool {
	seen := map[[2]int]bool{}
	for _, j := range list {
		if !modelRight(l, j) {
			return false
		}
		seen[[2]int{j.Task, j.At}] = true
	}
	return len(list) <= 32 && len(seen) == len(list)
}

// modelAhead is the document's word.
func modelAhead(a, b api.Job) bool {
	less := a.Due < b.Due
	if a.Due == b.Due {
		less = a.Task < b.Task
		if a.Task == b.Task {
			less = a.At < b.At
		}
	}
	return less
}

// modelFirst looks for each job whether another one precedes it.
func modelFirst(list jobs, began bool) int {
	for i, j := range list {
		if j.Began == began && !slices.ContainsFunc(list, func(k api.Job) bool { return k.Began == began && modelAhead(k, j) }) {
			return i
		}
	}
	return -1
}

// modelSort takes the first of the jobs that are left that no other one precedes.
func modelSort(given jobs) jobs {
	left := slices.Clone(given)
	var out jobs
	for len(left) > 0 {
		i := slices.IndexFunc(left, func(j api.Job) bool {
			return !slices.ContainsFunc(left, func(k api.Job) bool { return modelAhead(k, j) })
		})
		out, left = append(out, left[i]), slices.Delete(left, i, i+1)
	}
	return out
}

// modelHeld is the document's word.
func modelHeld(l tasks, list jobs) []int {
	var held []int
	for _, j := range list {
		if !modelAll(l, list) || !j.Began {
			continue
		}
		for _, s := range l[j.Task].Secs {
			if s.At < j.Had && s.At+s.Len > j.Had {
				held = append(held, s.Res)
			}
		}
	}
	return held
}

// checkRight checks Right of a job, and what hangs on it for a list of this job alone.
func checkRight(t *testing.T, l tasks, j api.Job) {
	t.Helper()
	want := modelRight(l, j)
	if got := job.Right(l, j); got != want {
		t.Errorf("Right(%v, %+v): %v", l, j, got)
	}
	if got := job.All(l, jobs{j}); got != want {
		t.Errorf("All(%v, %+v alone): %v", l, j, got)
	}
}

// check checks all calls for a list of jobs, valid or not.
func check(t *testing.T, l tasks, list jobs) {
	t.Helper()
	if got, want := job.All(l, list), modelAll(l, list); got != want {
		t.Errorf("All(%v, %+v): %v", l, list, got)
	}
	if got, want := job.Held(l, list), modelHeld(l, list); !slices.Equal(got, want) {
		t.Errorf("Held(%v, %+v): %v, want %v", l, list, got, want)
	}
	checkOrder(t, list)
}

// checkOrder checks the calls that look at the order of jobs.
func checkOrder(t *testing.T, list jobs) {
	t.Helper()
	for _, began := range []bool{false, true} {
		if got, want := job.First(list, began), modelFirst(list, began); got != want {
			t.Errorf("First(%+v, %v): %d, want %d", list, began, got, want)
		}
	}
	if got, want := job.Sort(list), modelSort(list); !slices.Equal(got, want) {
		t.Errorf("Sort(%+v): %+v, want %+v", list, got, want)
	}
}

// P14.1: a job with one thing changed.
func TestRight(t *testing.T) {
	for i, task := range shared() {
		for _, at := range []int{0, 1, 1 << 32, lastAt - 1, lastAt} {
			right := api.Job{Task: i, At: at, Due: at + task.D, Want: 200}
			if !job.Right(shared(), right) {
				t.Errorf("not right: %+v", right)
			}
			for name, change := range map[string]func(*api.Job){
				"Due just below":    func(j *api.Job) { j.Due-- },
				"Due just above":    func(j *api.Job) { j.Due++ },
				"Due 0":             func(j *api.Job) { j.Due = 0 },
				"Due is At":         func(j *api.Job) { j.Due = j.At },
				"At just below":     func(j *api.Job) { j.At-- },
				"At just above":     func(j *api.Job) { j.At++ },
				"Task below 0":      func(j *api.Job) { j.Task = -1 },
				"Task too great":    func(j *api.Job) { j.Task = len(shared()) },
				"Want 0":            func(j *api.Job) { j.Want = 0 },
				"Want below 0":      func(j *api.Job) { j.Want = -1 },
				"Want too great":    func(j *api.Job) { j.Want = 201 },
				"Had below 0":       func(j *api.Job) { j.Had = -1 },
				"Had below 0 begun": func(j *api.Job) { j.Had, j.Began = -1, true },
				"Had is C":          func(j *api.Job) { j.Had, j.Began = task.C, true },
				"Had above C":       func(j *api.Job) { j.Had, j.Began = task.C+1, true },
				"Had is Want":       func(j *api.Job) { j.Want, j.Had, j.Began = 1, 1, true },
				"Had without Began": func(j *api.Job) { j.Had = 1 },
			} {
				wrong := right
				change(&wrong)
				if job.Right(shared(), wrong) {
					t.Errorf("right with %s: %+v", name, wrong)
				}
			}
		}
	}
}

// P14.1: At from 0 to MaxNum - MaxTime, with the Due that belongs to it, as far as there is one.
func TestRightOfAt(t *testing.T) {
	for at, want := range map[int]bool{-2: false, -1: false, 0: true, 1: true, 1<<32 + 3: true, lastAt - 1: true, lastAt: true, lastAt + 1: false, api.MaxNum - 7: false, api.MaxNum: false, api.MaxNum + 1: false, math.MaxInt - 7: false, math.MaxInt: false, math.MinInt: false, math.MinInt + 1: false, -7: false, -api.MaxNum: false} {
		for i, task := range shared() {
			j := api.Job{Task: i, At: at, Due: at + task.D, Want: 1} // the sum may wrap round: then, too, it isn't right
			if got := job.Right(shared(), j); got != want {
				t.Errorf("Right(%+v): %v", j, got)
			}
		}
	}
}

// P14.1: Had is below C and below Want, and a job that has had ticks has begun; one may begin without.
func TestRightOfTicks(t *testing.T) {
	for _, x := range []struct {
		want, had   int
		rest, begun bool
	}{
		{1, 0, true, true}, {2, 0, true, true}, {200, 0, true, true}, {201, 0, false, false}, {0, 0, false, false}, {-1, 0, false, false},
		{1, 1, false, false}, {2, 1, false, true}, {2, 2, false, false}, {3, 2, false, true}, {5, 4, false, true}, {4, 4, false, false}, {6, 4, false, true}, {200, 4, false, true},
		{200, 5, false, false}, {6, 5, false, false}, {200, 6, false, false}, {200, -1, false, false}, {1, -1, false, false}, {-1, -2, false, false},
		{math.MaxInt, 0, false, false}, {math.MinInt, 0, false, false}, {200, math.MinInt, false, false}, {200, math.MaxInt, false, false}, {math.MinInt, math.MinInt, false, false}, {1<<32 + 1, 0, false, false}, {2, 1 << 32, false, false},
	} {
		j := api.Job{Task: 0, At: 3, Due: 10, Want: x.want, Had: x.had}
		if got := job.Right(shared(), j); got != x.rest {
			t.Errorf("Right(%+v): %v", j, got)
		}
		j.Began = true
		if got := job.Right(shared(), j); got != x.begun {
			t.Errorf("Right(%+v): %v", j, got)
		}
	}
}

// P14.1: all jobs with numbers around those that matter.
func TestRightAsDescribed(t *testing.T) {
	l := tasks{{C: 2, D: 3, T: 4}, {C: 3, D: 3, T: 200}, {C: 200, D: 200, T: 200}}
	counts := map[bool]int{}
	for task := -2; task <= 4; task++ {
		for _, at := range []int{math.MinInt, -200, -1, 0, 1, 5, lastAt - 1, lastAt, lastAt + 1, math.MaxInt - 3, math.MaxInt} {
			for _, d := range []int{-1, 0, 1, 2, 3, 4, 199, 200, 201} {
				for _, want := range []int{-1, 0, 1, 2, 3, 4, 199, 200, 201} {
					for _, had := range []int{-1, 0, 1, 2, 3, 4, 198, 199, 200} {
						j := api.Job{Task: task, At: at, Due: at + d, Want: want, Had: had}
						checkRight(t, l, j)
						j.Began = true
						checkRight(t, l, j)
						counts[modelRight(l, j)]++
					}
				}
			}
		}
	}
	if counts[true] < 100 || counts[false] < 1000 {
		t.Errorf("too few of a kind: %v", counts)
	}
}

// P14.1: the number of the task: of all counts of tasks, also of none, and of too many.
func TestRightOfTheNumberOfTasks(t *testing.T) {
	for n := range api.MaxTasks + 3 {
		l := slices.Repeat(tasks{{C: 2, D: 4, T: 6}}, n)
		for i := -2; i <= n+2; i++ {
			j := api.Job{Task: i, At: 5, Due: 9, Want: 1}
			if got, want := job.Right(l, j), 0 <= i && i < n && n <= api.MaxTasks; got != want {
				t.Errorf("Right of task %d of %d: %v", i, n, got)
			}
		}
		for _, i := range []int{math.MinInt, math.MaxInt, 1 << 32, 1<<63 - 1<<32, -1 << 32} {
			if job.Right(l, api.Job{Task: i, At: 5, Due: 9, Want: 1}) {
				t.Errorf("Right of task %d of %d", i, n)
			}
		}
	}
}

// P14.1, P14.2: of tasks that are not valid no job is, though its own task may be; but no jobs are valid, as each of them is.
func TestTasksThatAreNotValid(t *testing.T) {
	for _, l := range wrongTasks() {
		for i := range l {
			for _, j := range []api.Job{{Task: i, Due: l[i].D, Want: 1}, {Task: i, Due: l[i].D, Want: 200, Had: 1, Began: true}} {
				if job.Right(l, j) || job.All(l, jobs{j}) || len(job.Held(l, jobs{j})) > 0 {
					t.Errorf("%+v of %v", j, l)
				}
			}
		}
		if !job.All(l, nil) || !job.All(l, jobs{}) || len(job.Held(l, nil)) > 0 {
			t.Errorf("no jobs of %v", l)
		}
	}
	if job.Right(nil, api.Job{Due: 1, Want: 1}) || job.Right(tasks{}, api.Job{}) || job.All(nil, jobs{{}}) || !job.All(nil, nil) || !job.All(tasks{}, jobs{}) {
		t.Error("no tasks")
	}
}

// full returns n different jobs, which are valid but for their number.
func full(n int) jobs {
	var out jobs
	for i := range n {
		out = append(out, of(i%3, 100-i/3, 2, i%2))
	}
	return out
}

// wrong returns jobs that are not valid.
func wrong() jobs {
	return jobs{
		{}, {Task: -1, At: 0, Due: 7, Want: 1}, {Task: 6, At: 0, Due: 7, Want: 1}, {Task: 0, At: 0, Due: 8, Want: 1}, {Task: 0, At: 0, Due: 6, Want: 1}, {Task: 0, At: -1, Due: 6, Want: 1}, {Task: 0, At: lastAt + 1, Due: lastAt + 8, Want: 1},
		{Task: 0, At: 0, Due: 7}, {Task: 0, At: 0, Due: 7, Want: 201}, {Task: 0, At: 0, Due: 7, Want: 9, Had: 5, Began: true}, {Task: 0, At: 0, Due: 7, Want: 2, Had: 2, Began: true}, {Task: 0, At: 0, Due: 7, Want: 9, Had: -1}, {Task: 0, At: 0, Due: 7, Want: 9, Had: 1},
		{Task: math.MinInt, At: math.MinInt, Due: math.MinInt, Want: math.MinInt, Had: math.MinInt}, {Task: math.MaxInt, At: math.MaxInt, Due: math.MaxInt, Want: math.MaxInt, Had: math.MaxInt, Began: true},
	}
}

// P14.1: up to MaxJobs jobs are valid, not one more; and one that isn't valid, wherever it is, is enough.
func TestAll(t *testing.T) {
	for n := range api.MaxJobs + 4 {
		if got := job.All(shared(), full(n)); got != (n <= api.MaxJobs) {
			t.Errorf("All of %d jobs: %v", n, got)
		}
		check(t, shared(), full(n))
	}
	for _, n := range []int{1, 2, 5, api.MaxJobs} {
		for i := range n {
			for _, bad := range wrong() {
				list := full(n)
				list[i] = bad
				if job.All(shared(), list) || len(job.Held(shared(), list)) > 0 {
					t.Errorf("All of %d jobs with %+v at %d", n, bad, i)
				}
			}
		}
	}
}

// P14.1: two jobs with the same task and the same At, wherever they are, and however they differ otherwise.
func TestAllWithTheSameTaskAndAt(t *testing.T) {
	for _, n := range []int{2, 3, 7, api.MaxJobs} {
		for k := range n {
			for i := range k {
				alike, unlike, otherTask, otherAt := full(n), full(n), full(n), full(n)
				alike[k] = alike[i]
				unlike[k] = of(unlike[i].Task, unlike[i].At, unlike[i].Want+3, 1-unlike[i].Had)
				otherTask[k] = of((otherTask[i].Task+1)%3+2, otherTask[i].At, 1, 0)
				otherAt[k] = of(otherAt[i].Task, 300, 1, 0)
				if job.All(shared(), alike) || job.All(shared(), unlike) {
					t.Errorf("All with the same at %d and %d of %d", i, k, n)
				}
				check(t, shared(), alike)
				check(t, shared(), unlike)
				check(t, shared(), otherTask)
				check(t, shared(), otherAt)
				if !job.All(shared(), otherAt) {
					t.Errorf("not All with the same task alone at %d and %d of %d", i, k, n)
				}
			}
		}
	}
	if !job.All(shared(), jobs{of(0, 9, 1, 0), of(1, 9, 1, 0)}) || !job.All(shared(), jobs{of(2, 9, 1, 0), of(5, 9, 1, 0)}) || !job.All(shared(), jobs{of(2, 8, 1, 0), of(2, 9, 1, 0)}) {
		t.Error("not All with the same task, or the same At, alone")
	}
}

// few returns some jobs, valid ones and others, many with the same Due.
func few() jobs {
	return jobs{
		of(0, 2, 5, 0), of(0, 2, 5, 3), of(0, 0, 4, 2), of(1, 5, 1, 0), of(1, 5, 2, 1), of(1, 3, 2, 0), of(2, 0, 200, 4), of(2, 0, 9, 8), of(3, 8, 1, 0), of(4, 2, 199, 198), of(5, 0, 200, 1), of(5, 2, 1, 0),
		{Task: 0, At: 2, Due: 9, Want: 3, Began: true}, {Task: 2, At: 2, Due: 9, Want: 3}, {Task: -1, At: 2, Due: 9}, {Task: 0, At: 3, Due: 9, Want: 1}, {Task: 0, At: 2, Due: 9, Want: 5, Had: 3},
	}
}

// P14.1, P14.2: all lists of up to three of some jobs, and of up to five of fewer, also with the same one twice.
func TestAsDescribed(t *testing.T) {
	var walk func(pool, list jobs, n int)
	walk = func(pool, list jobs, n int) {
		check(t, shared(), list)
		if n == 0 {
			return
		}
		for _, j := range pool {
			walk(pool, append(slices.Clip(list), j), n-1)
		}
	}
	walk(few(), nil, 3)
	walk(few()[:5], nil, 5)
}

// mixed returns a list of jobs by chance: of valid ones with different At, or with numbers out of few, or with numbers at the ends of int.
func mixed(r *rand.Rand, n, kind int) jobs {
	var out jobs
	for i := range n {
		switch kind {
		case 0:
			task := r.Intn(len(shared()))
			want := 1 + r.Intn(200)
			out = append(out, of(task, r.Intn(4)*40+i, want, r.Intn(min(want, shared()[task].C))))
		case 1:
			out = append(out, api.Job{Task: r.Intn(3) - 1, At: r.Intn(3), Due: r.Intn(4), Want: i, Had: r.Intn(3), Began: r.Intn(2) == 0})
		default:
			at := func() int { return ends()[r.Intn(len(ends()))] }
			out = append(out, api.Job{Task: at(), At: at(), Due: at(), Want: at(), Had: i, Began: r.Intn(2) == 0})
		}
	}
	return out
}

// P14.1, P14.2: lists by chance.
func TestAsDescribedByChance(t *testing.T) {
	r := rand.New(rand.NewSource(14))
	valid, holding := 0, 0
	for k := range 6000 {
		list := mixed(r, r.Intn(40), k%3)
		check(t, shared(), list)
		if job.All(shared(), list) {
			valid++
		}
		if len(job.Held(shared(), list)) > 3 {
			holding++
		}
	}
	if valid < 1000 || holding < 300 {
		t.Errorf("too few of a kind: %d valid, %d that hold much", valid, holding)
	}
}

// P14.1: what precedes: each pair once with the lesser first.
func TestAhead(t *testing.T) {
	for _, x := range []struct{ first, second api.Job }{
		{api.Job{Due: 8, Task: 3, At: 9}, api.Job{Due: 9, Task: 0, At: 0}},
		{api.Job{Due: 8, Task: 1, At: 2}, api.Job{Due: 9, Task: 1, At: 2}},
		{api.Job{Due: 9, Task: 1, At: 8}, api.Job{Due: 9, Task: 2, At: 1}},
		{api.Job{Due: 9, Task: 1, At: 8}, api.Job{Due: 9, Task: 2, At: 8}},
		{api.Job{Due: 9, Task: 2, At: 4}, api.Job{Due: 9, Task: 2, At: 5}},
		{api.Job{Due: -1, Task: 2, At: 4}, api.Job{Due: 0, Task: 2, At: 4}},
		{api.Job{Due: 5, Task: -3, At: 4}, api.Job{Due: 5, Task: -2, At: 4}},
		{api.Job{Due: 5, Task: -3, At: -9}, api.Job{Due: 5, Task: -3, At: -8}},
		{api.Job{Due: math.MinInt}, api.Job{Due: math.MaxInt}},
		{api.Job{Due: math.MinInt}, api.Job{Due: 1}},
		{api.Job{Task: math.MinInt}, api.Job{Task: math.MaxInt}},
		{api.Job{Task: -2}, api.Job{Task: math.MaxInt}},
		{api.Job{At: math.MinInt}, api.Job{At: math.MaxInt}},
		{api.Job{At: math.MinInt}, api.Job{At: 1}},
		{api.Job{Due: 1, Want: 200, Had: 199, Began: true}, api.Job{Due: 2}},
		{api.Job{Due: 1}, api.Job{Due: 2, Want: 200, Had: 199, Began: true}},
		{of(1, 5, 1, 0), of(0, 3, 1, 0)},
		{of(0, 2, 1, 0), of(1, 5, 1, 0)},
	} {
		if !job.Ahead(x.first, x.second) || job.Ahead(x.second, x.first) {
			t.Errorf("%+v and %+v: %v, and the other way round %v", x.first, x.second, job.Ahead(x.first, x.second), job.Ahead(x.second, x.first))
		}
	}
}

// P14.1: jobs that differ in none of the three numbers don't precede one another.
func TestAheadOfEqualOnes(t *testing.T) {
	for _, n := range ends() {
		a := api.Job{Task: n, At: n, Due: n}
		for _, b := range []api.Job{a, {Task: n, At: n, Due: n, Want: 1}, {Task: n, At: n, Due: n, Had: -1}, {Task: n, At: n, Due: n, Began: true}, {Task: n, At: n, Due: n, Want: math.MaxInt, Had: math.MinInt, Began: true}} {
			if job.Ahead(a, b) || job.Ahead(b, a) {
				t.Errorf("%+v and %+v", a, b)
			}
		}
	}
}

// P14.1: all pairs of numbers at the ends of int.
func TestAheadAsDescribed(t *testing.T) {
	some := []int{math.MinInt, -1, 0, 1, 1 << 32, math.MaxInt}
	var list jobs
	for _, a := range some {
		for _, b := range some {
			for _, c := range some {
				list = append(list, api.Job{Task: a, At: b, Due: c, Want: b, Had: c, Began: a < b})
			}
		}
	}
	for _, a := range list {
		for _, b := range list {
			if got, want := job.Ahead(a, b), modelAhead(a, b); got != want {
				t.Errorf("Ahead(%+v, %+v): %v", a, b, got)
			}
		}
	}
	checkOrder(t, list)
}

// P14.2: First among those that have begun, or have not.
func TestFirst(t *testing.T) {
	yes := func(due, task, at, mark int) api.Job {
		return api.Job{Due: due, Task: task, At: at, Want: mark, Began: true}
	}
	no := func(due, task, at, mark int) api.Job { return api.Job{Due: due, Task: task, At: at, Want: mark} }
	for _, x := range []struct {
		list    jobs
		no, yes int
	}{
		{nil, -1, -1},
		{jobs{}, -1, -1},
		{jobs{no(5, 0, 0, 1)}, 0, -1},
		{jobs{yes(5, 0, 0, 1)}, -1, 0},
		{jobs{yes(5, 0, 0, 1), no(3, 0, 0, 1)}, 1, 0},
		{jobs{no(3, 0, 0, 1), yes(5, 0, 0, 1)}, 0, 1},
		{jobs{no(5, 0, 0, 1), no(3, 0, 0, 1), no(4, 0, 0, 1)}, 1, -1},
		{jobs{no(3, 2, 0, 1), no(3, 1, 7, 1), no(4, 0, 0, 1)}, 1, -1},
		{jobs{no(3, 1, 7, 1), no(3, 1, 8, 1), no(3, 1, 6, 1)}, 2, -1},
		{jobs{no(3, 1, 7, 1), no(3, 1, 7, 2), no(3, 1, 7, 3)}, 0, -1},
		{jobs{yes(9, 1, 7, 1), yes(3, 1, 7, 1), yes(3, 1, 7, 2), no(3, 1, 7, 0), no(3, 1, 7, 4)}, 3, 1},
		{jobs{yes(3, 1, 7, 1), no(9, 1, 7, 1), yes(3, 1, 7, 2), no(9, 1, 7, 2)}, 1, 0},
		{jobs{yes(math.MinInt, 0, 0, 0), no(math.MaxInt, 0, 0, 0)}, 1, 0},
		{jobs{no(math.MaxInt, math.MaxInt, math.MaxInt, 0)}, 0, -1},
		{jobs{no(0, 0, 0, 0), no(math.MinInt, math.MaxInt, math.MaxInt, 0), yes(0, 0, 0, 0), yes(-1, 9, 9, 0)}, 1, 3},
	} {
		if a, b := job.First(x.list, false), job.First(x.list, true); a != x.no || b != x.yes {
			t.Errorf("First(%+v): %d and %d, want %d and %d", x.list, a, b, x.no, x.yes)
		}
	}
	for n := 1; n <= 40; n++ {
		for i := range n {
			list := slices.Repeat(jobs{{Due: 9}}, n)
			list[i].Due = 8
			if got := job.First(list, false); got != i || job.First(list, true) != -1 {
				t.Errorf("First of %d jobs, with the first one at %d: %d", n, i, got)
			}
		}
	}
}

// P14.2: Held, one job after the other.
func TestHeld(t *testing.T) {
	for _, x := range []struct {
		list jobs
		want []int
	}{
		{nil, nil},
		{jobs{of(0, 0, 5, 0), of(2, 0, 9, 0)}, nil},
		{jobs{{Task: 0, Due: 7, Want: 1, Began: true}, {Task: 2, Due: 9, Want: 1, Began: true}}, nil},
		{jobs{of(0, 0, 5, 1), of(1, 0, 2, 1)}, nil},
		{jobs{of(0, 0, 5, 2)}, []int{0}},
		{jobs{of(0, 0, 5, 3)}, []int{0}},
		{jobs{of(0, 0, 5, 4)}, nil},
		{jobs{of(2, 0, 9, 1)}, []int{3, 2}},
		{jobs{of(2, 0, 9, 2)}, []int{3, 2}},
		{jobs{of(2, 0, 9, 3)}, []int{3, 2, 1}},
		{jobs{of(2, 0, 9, 4)}, []int{3, 2, 1, 0}},
		{jobs{of(2, 0, 9, 6)}, []int{3, 2, 1}},
		{jobs{of(2, 0, 9, 7)}, []int{3, 2}},
		{jobs{of(2, 0, 9, 8)}, []int{3}},
		{jobs{of(0, 0, 5, 3), of(2, 0, 9, 4)}, []int{0, 3, 2, 1, 0}},
		{jobs{of(2, 0, 9, 4), of(0, 0, 5, 3)}, []int{3, 2, 1, 0, 0}},
		{jobs{of(2, 9, 9, 8), of(1, 0, 2, 1), of(2, 0, 9, 4), of(0, 5, 2, 0), of(4, 5, 200, 199), of(0, 0, 5, 2)}, []int{3, 3, 2, 1, 0, 2, 0}},
		{jobs{of(0, 0, 5, 3), of(2, 0, 9, 4), of(0, 0, 5, 3)}, nil},
		{jobs{of(0, 0, 5, 3), of(2, 0, 9, 4), {}}, nil},
		{jobs{{Task: 0, Due: 7, Want: 5, Had: 3}}, nil},
		{jobs{{Task: 0, Due: 8, Want: 5, Had: 3, Began: true}}, nil},
	} {
		if got := job.Held(shared(), x.list); !slices.Equal(got, x.want) {
			t.Errorf("Held(%+v): %v, want %v", x.list, got, x.want)
		}
	}
	most := jobs{}
	for i := range api.MaxJobs {
		most = append(most, of(2, 12*i, 9, 4))
	}
	if got := job.Held(shared(), most); !slices.Equal(got, slices.Repeat([]int{3, 2, 1, 0}, api.MaxJobs)) {
		t.Errorf("Held of %d jobs: %v", api.MaxJobs, got)
	}
	if got := job.Held(shared(), append(most, of(0, 0, 5, 3))); len(got) > 0 {
		t.Errorf("Held of one more: %v", got)
	}
}

// P14.2: Sort, of jobs in order, in the opposite order, and of equal ones, which keep theirs.
func TestSort(t *testing.T) {
	for n := range 70 {
		var want, opposite jobs
		for i := range n {
			want = append(want, api.Job{Due: i / 6, Task: i / 2 % 3, At: i % 2})
		}
		for _, j := range slices.Backward(want) {
			opposite = append(opposite, j)
		}
		shuffled := slices.Clone(want)
		rand.New(rand.NewSource(int64(n))).Shuffle(n, func(i, k int) { shuffled[i], shuffled[k] = shuffled[k], shuffled[i] })
		for _, list := range []jobs{want, opposite, shuffled} {
			if got := job.Sort(list); !slices.Equal(got, want) {
				t.Errorf("Sort(%+v): %+v", list, got)
			}
		}
	}
	for n := range 70 {
		var list, want jobs
		for i := range n {
			list = append(list, api.Job{Due: 5 - i%2, Want: i, Began: i%3 == 0})
		}
		for _, odd := range []int{1, 0} {
			for i := odd; i < n; i += 2 {
				want = append(want, list[i])
			}
		}
		if got := job.Sort(list); !slices.Equal(got, want) {
			t.Errorf("Sort(%+v): %+v", list, got)
		}
	}
}

// P14.2: each one of the sorted jobs precedes the next one, or neither does, and there are the same ones as before, also if they are not valid.
func TestSortOfAnyJobs(t *testing.T) {
	r := rand.New(rand.NewSource(2))
	for k := range 60 {
		list := mixed(r, 1+r.Intn(300), k%3)
		got := job.Sort(list)
		counts := map[api.Job]int{}
		for _, j := range list {
			counts[j]++
		}
		for i, j := range got {
			counts[j]--
			if i > 0 && job.Ahead(j, got[i-1]) {
				t.Fatalf("Sort(%+v): at %d %+v", list, i, got)
			}
		}
		for j, n := range counts {
			if n != 0 {
				t.Errorf("Sort: %+v counts %d fewer", j, n)
			}
		}
	}
}

// P14.3: of two different ones of valid jobs exactly one precedes the other, and what precedes what precedes a job precedes it.
func TestOneOfTwoPrecedes(t *testing.T) {
	r := rand.New(rand.NewSource(3))
	pairs, equalDue := 0, 0
	for range 300 {
		list := mixed(r, r.Intn(33), 0)
		if !job.All(shared(), list) {
			t.Fatalf("not valid: %+v", list)
		}
		for i, a := range list {
			if job.Ahead(a, a) {
				t.Errorf("%+v precedes itself", a)
			}
			for k, b := range list {
				if i == k {
					continue
				}
				pairs++
				if a.Due == b.Due {
					equalDue++
				}
				if job.Ahead(a, b) == job.Ahead(b, a) {
					t.Errorf("%+v and %+v: %v both ways", a, b, job.Ahead(a, b))
				}
				for _, c := range list {
					if job.Ahead(a, b) && job.Ahead(b, c) && !job.Ahead(a, c) {
						t.Errorf("%+v, %+v, %+v", a, b, c)
					}
				}
			}
		}
	}
	if pairs < 10000 || equalDue < 100 {
		t.Errorf("too few: %d pairs, %d with the same Due", pairs, equalDue)
	}
}

// firstOfAll returns the index of the first one of all jobs: of the two first ones, of those that have begun and of the others, that which precedes, or is equal and stands before.
func firstOfAll(list jobs) int {
	a, b := job.First(list, false), job.First(list, true)
	if a == -1 || b == -1 {
		return max(a, b)
	}
	if job.Ahead(list[a], list[b]) || !job.Ahead(list[b], list[a]) && a < b {
		return a
	}
	return b
}

// P14.4: the first one of all is the first one of the sorted ones.
func TestTheFirstOneIsTheFirstSortedOne(t *testing.T) {
	r := rand.New(rand.NewSource(4))
	for k := range 2000 {
		list := mixed(r, 1+r.Intn(32), k%3)
		if got, want := job.Sort(list)[0], list[firstOfAll(list)]; got != want {
			t.Errorf("%+v: the first sorted one is %+v, the first one of all %+v", list, got, want)
		}
		for _, began := range []bool{false, true} {
			alike := slices.Clone(list)
			for i := range alike {
				alike[i].Began = began
			}
			if got, want := job.Sort(alike)[0], alike[job.First(alike, began)]; got != want || job.First(alike, !began) != -1 {
				t.Errorf("%+v: the first sorted one is %+v, the first one %+v", alike, got, want)
			}
			if i := job.First(job.Sort(alike), began); i != 0 {
				t.Errorf("%+v: the first one of the sorted ones is at %d", alike, i)
			}
		}
	}
}

// The examples of the chapter.
func TestExample(t *testing.T) {
	a, b, c := api.Job{Due: 9, Task: 1}, api.Job{Due: 9, Task: 2}, api.Job{Due: 10, Task: 0}
	if !job.Ahead(a, b) || !job.Ahead(a, c) || !job.Ahead(b, c) || job.Ahead(b, a) || job.Ahead(c, a) || job.Ahead(c, b) {
		t.Error("Ahead")
	}
	for _, list := range []jobs{{a, b, c}, {a, c, b}, {b, a, c}, {b, c, a}, {c, a, b}, {c, b, a}} {
		if got := job.Sort(list); !slices.Equal(got, jobs{a, b, c}) || list[job.First(list, false)] != a {
			t.Errorf("Sort(%+v): %+v", list, got)
		}
	}
}

// answers is what all calls return for a list, and its first and last jobs.
type answers struct {
	right, all, ahead bool
	first             [2]int
	held              []int
	sorted            jobs
}

func call(l tasks, list jobs) answers {
	var a, b api.Job
	if len(list) > 0 {
		a, b = list[0], list[len(list)-1]
	}
	return answers{job.Right(l, a), job.All(l, list), job.Ahead(a, b), [2]int{job.First(list, false), job.First(list, true)}, job.Held(l, list), job.Sort(list)}
}

func (a answers) equal(b answers) bool {
	return a.right == b.right && a.all == b.all && a.ahead == b.ahead && a.first == b.first && slices.Equal(a.held, b.held) && slices.Equal(a.sorted, b.sorted)
}

// copied returns the tasks in new memory, that lies also behind them, with their sections in memory of its own.
func copied(l tasks) tasks {
	out := make(tasks, len(l), len(l)+2)
	for i, t := range l {
		out[i] = t
		out[i].Secs = append(make([]api.Sec, 0, len(t.Secs)+1), t.Secs...)
		out[i].Secs = append(out[i].Secs, api.Sec{Res: 9, At: 9, Len: 9})[:len(t.Secs)]
	}
	return append(out, api.Task{C: 7}, api.Task{D: 7})[:len(l)]
}

// sameTasks reports whether tasks are equal, with all the memory behind them and their sections.
func sameTasks(a, b tasks) bool {
	return slices.EqualFunc(a[:cap(a)], b[:cap(b)], func(x, y api.Task) bool {
		return x.C == y.C && x.D == y.D && x.T == y.T && slices.Equal(x.Secs[:cap(x.Secs)], y.Secs[:cap(y.Secs)])
	})
}

// some returns lists of jobs, valid and not.
func some() []jobs {
	out := []jobs{nil, few()[:1], few(), full(api.MaxJobs), full(api.MaxJobs + 1), wrong(), {of(2, 0, 9, 4), of(0, 0, 5, 3), of(1, 0, 2, 0)}}
	r := rand.New(rand.NewSource(5))
	for k := range 30 {
		out = append(out, mixed(r, r.Intn(34), k%3))
	}
	return out
}

// R3: no call changes its arguments, nor what lies behind them.
func TestArgumentsDoNotChange(t *testing.T) {
	for _, l := range append(wrongTasks(), nil, shared()) {
		for _, list := range some() {
			given, before := copied(l), copied(l)
			memory := append(append(make(jobs, 0, len(list)+2), list...), api.Job{Due: -5}, api.Job{Due: -6})
			jobsBefore := slices.Clone(memory)
			call(given, memory[:len(list)])
			if !sameTasks(given, before) || !slices.Equal(memory, jobsBefore) {
				t.Errorf("a call changed its arguments: %v and %v to %v and %v", before, jobsBefore, given, memory)
			}
		}
	}
}

// R3, R4: no call keeps what it is given: after other calls, and after a change in the same memory, the results are those of new memory.
func TestNothingIsKept(t *testing.T) {
	memory, tasksMemory := make(jobs, 64), make(tasks, 32)
	all, lists := some(), append(wrongTasks(), shared(), nil)
	for n, list := range all {
		for k, l := range lists {
			want := call(copied(l), slices.Clone(list))
			call(lists[(k+1)%len(lists)], all[(n+1)%len(all)])
			given := tasksMemory[:copy(tasksMemory, l)]
			for range 2 {
				if got := call(given, memory[:copy(memory, list)]); !got.equal(want) {
					t.Errorf("%v, %+v: %+v, and before %+v", l, list, got, want)
				}
			}
		}
	}
}

// R3: results are new memory, spare capacity included: what is written there changes neither arguments nor other results.
func TestResultsAreNewMemory(t *testing.T) {
	for _, list := range some() {
		given, before := slices.Clone(list), slices.Clone(list)
		l, tasksBefore := copied(shared()), copied(shared())
		want, first, second := call(shared(), slices.Clone(list)), call(l, given), call(l, given)
		for i := range first.sorted[:cap(first.sorted)] {
			first.sorted[:cap(first.sorted)][i] = api.Job{Due: -77}
		}
		for i := range first.held[:cap(first.held)] {
			first.held[:cap(first.held)][i] = -77
		}
		if !second.equal(want) || !slices.Equal(given, before) || !sameTasks(l, tasksBefore) {
			t.Errorf("a change of a result of %+v is seen elsewhere", list)
		}
		if third := call(l, given); !third.equal(want) {
			t.Errorf("a change of a result of %+v changed the next one", list)
		}
		for i := range given {
			given[i] = api.Job{Due: -78}
		}
		if !second.equal(want) {
			t.Errorf("a change of the argument %+v is seen in a result", list)
		}
	}
}

// R3: what lies behind no jobs does not come back as spare capacity.
func TestSortOfNoJobWithMemoryBehind(t *testing.T) {
	memory := jobs{{Due: 1}, {Due: 2}}
	got := job.Sort(memory[:0])
	if len(got) > 0 {
		t.Errorf("Sort of no job: %+v", got)
	}
	_ = append(got, api.Job{Due: 3})
	if memory[0].Due != 1 {
		t.Error("Sort of no job returns the memory behind it")
	}
}

// R3: a nil list and an empty one are the same.
func TestNoListAndAnEmptyOne(t *testing.T) {
	for _, l := range []tasks{nil, {}, shared()} {
		a, b := call(l, nil), call(l, jobs{})
		if !a.equal(b) || len(a.held) > 0 || len(a.sorted) > 0 || !a.all || a.first != [2]int{-1, -1} {
			t.Errorf("no jobs of %v: %+v and %+v", l, a, b)
		}
	}
	for _, list := range some() {
		empty := shared()
		for i := range empty {
			if len(empty[i].Secs) == 0 {
				empty[i].Secs = []api.Sec{}
			}
		}
		if a, b := call(shared(), list), call(empty, list); !a.equal(b) {
			t.Errorf("%+v: %+v and %+v", list, a, b)
		}
		if a, b := call(nil, list), call(tasks{}, list); !a.equal(b) {
			t.Errorf("%+v of no tasks: %+v and %+v", list, a, b)
		}
	}
}

// R1: lists far beyond the limits, and any structs.
func TestEveryCallReturns(t *testing.T) {
	r := rand.New(rand.NewSource(6))
	long := mixed(r, 1<<16, 2)
	got := job.Sort(long)
	if len(got) != len(long) || !slices.IsSortedFunc(got, func(a, b api.Job) int {
		if modelAhead(a, b) {
			return -1
		}
		if modelAhead(b, a) {
			return 1
		}
		return a.Had - b.Had // their places in the given list
	}) {
		t.Error("Sort of a long list")
	}
	if job.All(shared(), long) || len(job.Held(shared(), long)) > 0 || got[0] != long[firstOfAll(long)] {
		t.Error("All, Held and First of a long list")
	}
	same := slices.Repeat(jobs{of(0, 0, 5, 3)}, 1<<16)
	if job.All(shared(), same) || len(job.Held(shared(), same)) > 0 || job.First(same, true) != 0 || job.First(same, false) != -1 || !slices.Equal(job.Sort(same), same) {
		t.Error("a long list of the same job")
	}
	many := slices.Repeat(shared(), 1<<12)
	if job.Right(many, of(0, 0, 5, 3)) || job.All(many, jobs{of(0, 0, 5, 3)}) {
		t.Error("very many tasks")
	}
	for _, a := range ends() {
		for _, b := range ends() {
			for _, c := range ends() {
				x := api.Task{C: a, D: b, T: c, Secs: []api.Sec{{Res: a, At: b, Len: c}, {Res: c, At: a, Len: b}}}
				for _, j := range []api.Job{{Task: 0, At: a, Due: b, Want: c, Had: a, Began: true}, {Task: a, At: b, Due: c, Want: 1}, {Task: 0, At: a, Due: a + b, Want: 1}} {
					if job.Right(tasks{x}, j) || job.All(tasks{x}, jobs{j}) || len(job.Held(tasks{x}, jobs{j})) > 0 {
						t.Errorf("%+v of %+v", j, x)
					}
				}
			}
		}
	}
}
