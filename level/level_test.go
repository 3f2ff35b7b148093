package level_test

import (
	"math"
	"math/rand"
	"slices"
	"testing"

	"remontoir/api"
	"remontoir/level"
	"remontoir/task"
)

type tasks = []api.Task

// using returns a task with this D, and a section of one tick for each of the resources, one after the other.
func using(d int, res ...int) api.Task {
	t := api.Task{C: max(1, len(res)), D: d, T: 200}
	for i, r := range res {
		t.Secs = append(t.Secs, api.Sec{Res: r, At: i, Len: 1})
	}
	return t
}

// due returns tasks with these D, which use nothing.
func due(ds ...int) tasks {
	var l tasks
	for _, d := range ds {
		l = append(l, using(d))
	}
	return l
}

// modelOf is the document's word.
func modelOf(l tasks, i int) int {
	if !task.All(l) || i < 0 || i >= len(l) {
		return 0
	}
	n := 1
	for _, t := range l {
		if t.D > l[i].D {
			n++
		}
	}
	return n
}

// names reports whether a section of t has the resource.
func names(t api.Task, res int) bool {
	for _, s := range t.Secs {
		if s.Res == res {
			return true
		}
	}
	return false
}

// modelCeiling is the document's word.
func modelCeiling(l tasks, res int) int {
	most := 0
	for i, t := range l {
		if names(t, res) && modelOf(l, i) > most {
			most = modelOf(l, i)
		}
	}
	return most
}

// modelHeld is the document's word.
func modelHeld(l tasks, held []int) int {
	most := 0
	for _, res := range held {
		if n := modelCeiling(l, res); n > most {
			most = n
		}
	}
	return most
}

// modelPasses is the document's word.
func modelPasses(l tasks, i int, held []int) bool {
	return task.All(l) && i >= 0 && i < len(l) && modelOf(l, i) > modelHeld(l, held)
}

// shared returns four tasks with the levels 4, 2, 2, 1, where the resources 0, 1, 2, 3 have the ceilings 0, 2, 4, 1.
func shared() tasks {
	return tasks{using(4, 2), using(6, 2), using(6, 1), using(9, 1, 2, 3)}
}

// wrongTasks returns tasks that are not valid.
func wrongTasks() tasks {
	return tasks{
		{}, {C: 0, D: 5, T: 9}, {C: -1, D: 5, T: 9}, {C: 6, D: 5, T: 9}, {C: 1, D: 10, T: 9}, {C: 1, D: 5, T: 201}, {C: 1, D: 201, T: 201}, {C: 1, D: 0, T: 9}, {C: 1, D: -5, T: 9},
		{C: math.MinInt, D: math.MinInt, T: math.MinInt}, {C: math.MaxInt, D: math.MaxInt, T: math.MaxInt}, {C: 1, D: math.MaxInt, T: 9}, {C: 1, D: math.MinInt, T: 9},
		using(5, -1), using(5, 4), using(5, math.MinInt), using(5, math.MaxInt), using(5, 1, 4), using(9, 0, 1, 2, 3, 0),
		{C: 3, D: 5, T: 9, Secs: []api.Sec{{Res: 1, At: 0, Len: 4}}}, {C: 3, D: 5, T: 9, Secs: []api.Sec{{Res: 1, At: 2, Len: 0}}}, {C: 3, D: 5, T: 9, Secs: []api.Sec{{Res: 1, At: math.MaxInt, Len: math.MaxInt}}},
		{C: 3, D: 5, T: 9, Secs: []api.Sec{{Res: 1, At: 0, Len: 2}, {Res: 2, At: 1, Len: 2}}}, {C: 3, D: 5, T: 9, Secs: []api.Sec{{Res: 1, At: 0, Len: 2}, {Res: 1, At: 1, Len: 1}}},
	}
}

// small returns all lists of up to three tasks with a D from 4 to 6 that use none, one or both of the resources 0 and 3.
func small() []tasks {
	var one tasks
	for d := 4; d <= 6; d++ {
		one = append(one, using(d), using(d, 0), using(d, 3), using(d, 3, 0))
	}
	out := []tasks{{}}
	for begin := 0; len(out[begin]) < 3; begin++ {
		for _, t := range one {
			out = append(out, append(slices.Clone(out[begin]), t))
		}
	}
	return out
}

// mixed returns lists of up to nine tasks by chance, some of them with one that is not valid.
func mixed() []tasks {
	r := rand.New(rand.NewSource(6))
	wrong := wrongTasks()
	var out []tasks
	for range 2000 {
		spread := []int{1, 3, 8, 190}[r.Intn(4)]
		var l tasks
		for range r.Intn(10) {
			t := using(9+r.Intn(spread), r.Perm(api.MaxRes)[:r.Intn(3)]...)
			// The level of a task has nothing to do with its C and T.
			t.C, t.T = t.C+r.Intn(5), t.D+r.Intn(201-t.D)
			l = append(l, t)
		}
		if len(l) > 0 && r.Intn(8) == 0 {
			l[r.Intn(len(l))] = wrong[r.Intn(len(wrong))]
		}
		out = append(out, l)
	}
	return out
}

// lists returns all of these, and the ones of the other tests.
func lists() []tasks {
	out := slices.Concat(small(), mixed())
	return append(out, nil, shared(), due(4, 6, 6), due(1), due(200), slices.Repeat(shared(), 2), slices.Repeat(shared(), 3))
}

// places returns numbers of tasks, of a list of n, and others.
func places(n int) []int {
	out := []int{math.MinInt, math.MinInt + 1, -n - 1, -n, -2, -1}
	for i := range n {
		out = append(out, i)
	}
	return append(out, n, n+1, 2*n, 7, 8, 9, 1<<31, 1<<32, api.MaxNum, math.MaxInt-1, math.MaxInt)
}

// resources returns all resources, and numbers outside the range.
func resources() []int {
	return []int{math.MinInt, math.MinInt + 1, -4, -1, 0, 1, 2, 3, 4, 5, 1 << 32, api.MaxNum, math.MaxInt - 1, math.MaxInt}
}

// holdings returns lists of held resources: every set of them, and others.
func holdings() [][]int {
	out := [][]int{nil, {}, {3, 0}, {2, 1}, {3, 2, 1, 0}, {2, 0, 3, 1}, {1, 1}, {0, 3, 0}, {2, 2, 2, 2, 2}, {3, 2, 3, 2, 1},
		{-1}, {4}, {math.MinInt}, {math.MaxInt}, {-1, 1}, {3, 4}, {math.MinInt, 0, math.MaxInt}, {5, 2, -7}}
	for set := range 1 << api.MaxRes {
		var held []int
		for res := range api.MaxRes {
			if set>>res&1 == 1 {
				held = append(held, res)
			}
		}
		out = append(out, held)
	}
	return out
}

// P6.1
func TestOf(t *testing.T) {
	rows := []struct{ ds, want []int }{
		{nil, nil},
		{[]int{1}, []int{1}},
		{[]int{200}, []int{1}},
		{[]int{4, 6, 6}, []int{3, 1, 1}},
		{[]int{6, 4, 6}, []int{1, 3, 1}},
		{[]int{5, 5}, []int{1, 1}},
		{[]int{5, 6}, []int{2, 1}},
		{[]int{6, 5}, []int{1, 2}},
		{[]int{4, 4, 9}, []int{2, 2, 1}},
		{[]int{1, 200, 1, 199}, []int{3, 1, 3, 2}},
		{[]int{10, 11, 12, 13, 14, 15, 16, 17}, []int{8, 7, 6, 5, 4, 3, 2, 1}},
		{[]int{200, 150, 90, 80, 70, 30, 2, 1}, []int{1, 2, 3, 4, 5, 6, 7, 8}},
		{[]int{7, 7, 7, 7, 7, 7, 7, 7}, []int{1, 1, 1, 1, 1, 1, 1, 1}},
		{[]int{9, 3, 9, 5, 3, 5, 9, 1}, []int{1, 6, 1, 4, 6, 4, 1, 8}},
		{[]int{10, 11, 12, 13, 14, 15, 16, 17, 18}, []int{0, 0, 0, 0, 0, 0, 0, 0, 0}},
	}
	for _, r := range rows {
		l := due(r.ds...)
		for i, want := range r.want {
			if got := level.Of(l, i); got != want {
				t.Errorf("Of of D %v, %d: %d, want %d", r.ds, i, got, want)
			}
		}
	}
}

// P6.1: C, T and the sections of a task have nothing to do with its level.
func TestOfLooksAtDAlone(t *testing.T) {
	l := tasks{{C: 9, D: 9, T: 9}, {C: 1, D: 10, T: 200}, {C: 10, D: 10, T: 10}, {C: 2, D: 12, T: 50, Secs: []api.Sec{{Res: 0, At: 0, Len: 2}}}, {C: 1, D: 8, T: 199}}
	for i, want := range []int{4, 2, 2, 1, 5} {
		if got := level.Of(l, i); got != want {
			t.Errorf("Of(%d): %d, want %d", i, got, want)
		}
	}
}

// P6.1
func TestOfWithoutATask(t *testing.T) {
	for n := range api.MaxTasks + 1 {
		l := slices.Repeat(due(5), n)
		for _, i := range places(n) {
			want := 0
			if i >= 0 && i < n {
				want = 1
			}
			if got := level.Of(l, i); got != want {
				t.Errorf("Of of %d tasks, %d: %d, want %d", n, i, got, want)
			}
		}
	}
}

// P6.1
func TestCeiling(t *testing.T) {
	within := api.Task{C: 5, D: 7, T: 9, Secs: []api.Sec{{Res: 0, At: 1, Len: 3}, {Res: 1, At: 2, Len: 1}}}
	twice := using(5, 3, 1, 3)
	rows := []struct {
		l    tasks
		want []int // for the resources from 0 on
	}{
		{nil, []int{0, 0, 0, 0}},
		{due(5), []int{0, 0, 0, 0}},
		{tasks{using(5, 0)}, []int{1, 0, 0, 0}},
		{tasks{using(5, 3, 2, 1, 0)}, []int{1, 1, 1, 1}},
		{tasks{using(5, 3), using(9)}, []int{0, 0, 0, 2}},
		{tasks{using(5), using(9, 3)}, []int{0, 0, 0, 1}},
		{tasks{using(5, 0), using(9, 0)}, []int{2, 0, 0, 0}},
		{tasks{using(9, 0), using(5, 0)}, []int{2, 0, 0, 0}},
		{tasks{using(6, 2), using(6), using(6, 2)}, []int{0, 0, 1, 0}},
		{tasks{using(4, 1), using(6, 1), using(6)}, []int{0, 3, 0, 0}},
		{tasks{using(4), using(6, 1), using(5, 1), using(9, 1)}, []int{0, 3, 0, 0}},
		{tasks{using(9), twice, using(7, 1, 2)}, []int{0, 3, 2, 3}},
		{tasks{twice}, []int{0, 1, 0, 1}},
		{tasks{using(9, 2), within}, []int{2, 2, 1, 0}},
		{shared(), []int{0, 2, 4, 1}},
		{tasks{using(8, 0), using(7, 1), using(6, 0), using(5), using(10, 2), using(11, 3), using(12, 0), using(13, 3)}, []int{7, 6, 4, 3}},
		{slices.Repeat(tasks{using(8, 0, 1)}, 8), []int{1, 1, 0, 0}},
		{slices.Repeat(tasks{using(8, 0, 1)}, 9), []int{0, 0, 0, 0}},
	}
	for _, r := range rows {
		for res, want := range r.want {
			if got := level.Ceiling(r.l, res); got != want {
				t.Errorf("Ceiling(%v, %d): %d, want %d", r.l, res, got, want)
			}
		}
		for _, res := range resources() {
			if res >= 0 && res < api.MaxRes {
				continue
			}
			if got := level.Ceiling(r.l, res); got != 0 {
				t.Errorf("Ceiling(%v, %d): %d, want 0", r.l, res, got)
			}
		}
	}
}

// P6.1
func TestHeld(t *testing.T) {
	rows := []struct {
		held []int
		want int
	}{
		{nil, 0}, {[]int{}, 0},
		{[]int{0}, 0}, {[]int{1}, 2}, {[]int{2}, 4}, {[]int{3}, 1},
		{[]int{0, 1}, 2}, {[]int{1, 0}, 2}, {[]int{1, 3}, 2}, {[]int{3, 1}, 2}, {[]int{1, 2}, 4}, {[]int{2, 1}, 4},
		{[]int{3, 1, 2}, 4}, {[]int{2, 1, 3}, 4}, {[]int{1, 2, 3}, 4}, {[]int{0, 1, 2, 3}, 4}, {[]int{3, 2, 1, 0}, 4},
		{[]int{1, 1}, 2}, {[]int{3, 3, 3}, 1}, {[]int{0, 0}, 0}, {[]int{1, 3, 1, 3}, 2}, {[]int{2, 2, 2, 2, 2, 2, 2, 2, 2}, 4},
		{[]int{-1}, 0}, {[]int{4}, 0}, {[]int{math.MinInt, math.MaxInt}, 0}, {[]int{-1, 3, 4}, 1}, {[]int{math.MaxInt, 1, math.MinInt}, 2}, {[]int{5, 0, -7}, 0},
	}
	for _, r := range rows {
		if got := level.Held(shared(), r.held); got != r.want {
			t.Errorf("Held(%v): %d, want %d", r.held, got, r.want)
		}
		if got := level.Held(nil, r.held); got != 0 {
			t.Errorf("Held of no tasks, %v: %d", r.held, got)
		}
		if got := level.Held(due(4, 5, 6), r.held); got != 0 {
			t.Errorf("Held of tasks that use nothing, %v: %d", r.held, got)
		}
	}
}

// P6.1: the levels are 4, 2, 2, 1, and the ceilings 0, 2, 4, 1.
func TestPasses(t *testing.T) {
	rows := []struct {
		held []int
		want []bool // for the tasks from 0 on
	}{
		{nil, []bool{true, true, true, true}},
		{[]int{}, []bool{true, true, true, true}},
		{[]int{0}, []bool{true, true, true, true}},
		{[]int{-1, 4}, []bool{true, true, true, true}},
		{[]int{math.MinInt, math.MaxInt}, []bool{true, true, true, true}},
		{[]int{3}, []bool{true, true, true, false}},
		{[]int{3, 0, 3}, []bool{true, true, true, false}},
		{[]int{1}, []bool{true, false, false, false}},
		{[]int{3, 1}, []bool{true, false, false, false}},
		{[]int{1, 3, 5}, []bool{true, false, false, false}},
		{[]int{2}, []bool{false, false, false, false}},
		{[]int{0, 1, 2, 3}, []bool{false, false, false, false}},
		{[]int{2, 0}, []bool{false, false, false, false}},
	}
	for _, r := range rows {
		l := shared()
		for i, want := range r.want {
			if got := level.Passes(l, i, r.held); got != want {
				t.Errorf("Passes(%d, %v): %v, want %v", i, r.held, got, want)
			}
		}
		for _, i := range places(len(l)) {
			if (i < 0 || i >= len(l)) && level.Passes(l, i, r.held) {
				t.Errorf("Passes(%d, %v): true, without such a task", i, r.held)
			}
		}
		if level.Passes(nil, 0, r.held) || level.Passes(tasks{}, 0, r.held) || level.Passes(nil, -1, r.held) {
			t.Errorf("Passes of no tasks, %v: true", r.held)
		}
	}
}

// nothing checks that all results for tasks that are not valid are 0.
func nothing(t *testing.T, l tasks) {
	t.Helper()
	for _, i := range places(len(l)) {
		if got := level.Of(l, i); got != 0 {
			t.Errorf("Of(%v, %d): %d", l, i, got)
		}
		if level.Passes(l, i, nil) || level.Passes(l, i, []int{0}) || level.Passes(l, i, []int{-1}) {
			t.Errorf("Passes(%v, %d): true", l, i)
		}
	}
	for _, res := range resources() {
		if n, m := level.Ceiling(l, res), level.Held(l, []int{res, 0, 1}); n != 0 || m != 0 {
			t.Errorf("Ceiling(%v, %d): %d, and Held: %d", l, res, n, m)
		}
	}
}

// P6.1: one task that is not valid, at any place.
func TestTasksThatAreNotValid(t *testing.T) {
	for _, x := range wrongTasks() {
		if task.Right(x) {
			t.Fatalf("%v is valid", x)
		}
		for n := 1; n <= api.MaxTasks+1; n++ {
			for at := range n {
				l := slices.Repeat(tasks{using(50, 0, 1)}, n)
				l[at] = x
				nothing(t, l)
			}
		}
	}
}

// P6.1: a D of 7 and one of 5 in turn.
func TestTheNumberOfTasks(t *testing.T) {
	highest := []int{0, 1, 2, 3, 3, 4, 4, 5, 5}
	for n := range 20 {
		l := slices.Repeat(tasks{using(7), using(5, 0)}, 10)[:n]
		if n > api.MaxTasks {
			nothing(t, l)
			continue
		}
		for i := range n {
			want := 1
			if i%2 == 1 {
				want = highest[n]
			}
			if got := level.Of(l, i); got != want {
				t.Errorf("Of of %d tasks, %d: %d, want %d", n, i, got, want)
			}
		}
		ceiling := 0
		if n > 1 {
			ceiling = highest[n]
		}
		if got := level.Ceiling(l, 0); got != ceiling {
			t.Errorf("Ceiling of %d tasks: %d, want %d", n, got, ceiling)
		}
	}
}

// P6.1
func TestAsDescribed(t *testing.T) {
	for _, l := range lists() {
		for _, i := range places(len(l)) {
			if got, want := level.Of(l, i), modelOf(l, i); got != want {
				t.Errorf("Of(%v, %d): %d, want %d", l, i, got, want)
			}
		}
		for _, res := range resources() {
			if got, want := level.Ceiling(l, res), modelCeiling(l, res); got != want {
				t.Errorf("Ceiling(%v, %d): %d, want %d", l, res, got, want)
			}
		}
		for _, held := range holdings() {
			if got, want := level.Held(l, held), modelHeld(l, held); got != want {
				t.Errorf("Held(%v, %v): %d, want %d", l, held, got, want)
			}
			for i := -1; i <= len(l); i++ {
				if got, want := level.Passes(l, i, held), modelPasses(l, i, held); got != want {
					t.Errorf("Passes(%v, %d, %v): %v", l, i, held, got)
				}
			}
		}
	}
}

// P6.2
func TestTheSmallerDHasTheHigherLevel(t *testing.T) {
	pairs := map[int]int{}
	for _, l := range lists() {
		if !task.All(l) {
			continue
		}
		for i, a := range l {
			for k, b := range l {
				m, n := level.Of(l, i), level.Of(l, k)
				if a.D < b.D && m <= n || a.D == b.D && m != n || m < 1 || m > len(l) {
					t.Errorf("%v: the levels of %d and %d are %d and %d", l, i, k, m, n)
				}
				if i != k {
					pairs[min(1, max(-1, a.D-b.D))]++
				}
			}
		}
	}
	if pairs[-1] < 1000 || pairs[0] < 1000 || pairs[1] < 1000 {
		t.Errorf("too few pairs of one kind: %v", pairs)
	}
}

// P6.3
func TestATaskThatPassesUsesNothingHeld(t *testing.T) {
	passed, used := 0, 0
	for _, l := range lists() {
		for _, held := range holdings() {
			for i, x := range l {
				uses := slices.ContainsFunc(held, func(res int) bool { return names(x, res) })
				passes := level.Passes(l, i, held)
				if uses && passes {
					t.Errorf("%v: task %d passes, with %v held", l, i, held)
				}
				if passes && len(held) > 0 {
					passed++
				}
				if uses {
					used++
				}
			}
		}
	}
	if passed < 1000 || used < 1000 {
		t.Errorf("too few of one kind: %d that pass, %d that use what is held", passed, used)
	}
}

// passing returns the numbers of the tasks that pass.
func passing(l tasks, held []int) []int {
	var out []int
	for i := range l {
		if level.Passes(l, i, held) {
			out = append(out, i)
		}
	}
	return out
}

// P6.4
func TestWithMoreHeldNoMorePass(t *testing.T) {
	fewer := 0
	for _, l := range lists() {
		for _, held := range holdings() {
			before := passing(l, held)
			for res := -1; res <= api.MaxRes; res++ {
				for _, at := range []int{0, len(held)} {
					more := slices.Insert(slices.Clone(held), at, res)
					after := passing(l, more)
					for _, i := range after {
						if !slices.Contains(before, i) {
							t.Errorf("%v: task %d passes with %v held, and not with %v", l, i, more, held)
						}
					}
					if level.Held(l, more) < level.Held(l, held) {
						t.Errorf("%v: the ceiling of %v is below that of %v", l, more, held)
					}
					if len(after) < len(before) {
						fewer++
					}
				}
			}
		}
	}
	if fewer < 1000 {
		t.Errorf("too few cases in which fewer pass: %d", fewer)
	}
}

// P6.1: what passes depends neither on the order of what is held, nor on how often it is told.
func TestTheOrderOfWhatIsHeld(t *testing.T) {
	for _, l := range lists() {
		for _, held := range holdings() {
			turned := slices.Clone(held)
			slices.Reverse(turned)
			twice := slices.Concat(held, turned)
			if n := level.Held(l, held); level.Held(l, turned) != n || level.Held(l, twice) != n {
				t.Errorf("%v: the ceilings of %v, %v, %v are different", l, held, turned, twice)
			}
			if p := passing(l, held); !slices.Equal(p, passing(l, turned)) || !slices.Equal(p, passing(l, twice)) {
				t.Errorf("%v: not the same tasks pass with %v, %v, %v held", l, held, turned, twice)
			}
		}
	}
}

// The example of the chapter.
func TestExample(t *testing.T) {
	l := tasks{using(4, 2), using(6, 2), using(6)}
	if level.Of(l, 0) != 3 || level.Of(l, 1) != 1 || level.Of(l, 2) != 1 {
		t.Errorf("the levels: %d, %d, %d", level.Of(l, 0), level.Of(l, 1), level.Of(l, 2))
	}
	if level.Ceiling(l, 2) != 3 || level.Held(l, []int{2}) != 3 {
		t.Errorf("the ceiling: %d", level.Ceiling(l, 2))
	}
}

// results returns what all the calls return.
func results(l tasks, i, res int, held []int) []int {
	out := []int{level.Of(l, i), level.Ceiling(l, res), level.Held(l, held), 0}
	if level.Passes(l, i, held) {
		out[3] = 1
	}
	return out
}

// copied returns the tasks with their sections in new memory, with others behind the sections and behind the tasks; and that memory, as a whole.
func copied(l tasks) (tasks, tasks) {
	whole := make(tasks, 0, len(l)+2)
	for _, t := range append(slices.Clip(l), using(3, 1), using(2, 0)) {
		t.Secs = append(append(make([]api.Sec, 0, len(t.Secs)+1), t.Secs...), api.Sec{Res: 2, At: 1, Len: 5})[:len(t.Secs)]
		whole = append(whole, t)
	}
	return whole[:len(l)], whole
}

// equal reports whether two lists of tasks, made by copied, are equal, with what is behind their sections.
func equal(a, b tasks) bool {
	return slices.EqualFunc(a, b, func(x, y api.Task) bool {
		return x.C == y.C && x.D == y.D && x.T == y.T && slices.Equal(x.Secs, y.Secs) && slices.Equal(x.Secs[:cap(x.Secs)], y.Secs[:cap(y.Secs)])
	})
}

// some returns a few of the lists, with valid and with other tasks.
func some() []tasks {
	out := []tasks{nil, shared(), due(4, 6, 6), slices.Repeat(shared(), 2), slices.Repeat(shared(), 3)}
	for _, x := range wrongTasks() {
		out = append(out, tasks{x}, append(shared(), x))
	}
	return append(out, small()[:300]...)
}

// R3: no call changes the tasks, their sections, what is held, or what lies behind these.
func TestArgumentsDoNotChange(t *testing.T) {
	for _, l := range some() {
		for _, held := range holdings() {
			given, memory := copied(l)
			_, before := copied(l)
			heldMemory := append(append(make([]int, 0, len(held)+2), held...), 3, 1)
			heldBefore := slices.Clone(heldMemory)
			results(given, len(l)-1, 2, heldMemory[:len(held)])
			if !equal(memory, before) || !slices.Equal(heldMemory, heldBefore) {
				t.Errorf("a call changed its arguments: %v and %v to %v and %v", before, heldBefore, memory, heldMemory)
			}
		}
	}
}

// R3, R4: no call keeps what it is given: after other calls, and after a change in the same memory, the results are those of new memory.
func TestNothingIsKept(t *testing.T) {
	all := some()
	memory, secs, heldMemory := make(tasks, 16), make([]api.Sec, 100), make([]int, 16)
	for n, l := range all {
		for _, held := range holdings() {
			i, res := n%max(1, len(l)), n%api.MaxRes
			want := results(l, i, res, held)
			other := all[(n+1)%len(all)]
			results(other, i, res, held)
			given, space := memory[:copy(memory, l)], secs
			for k := range given {
				m := copy(space, given[k].Secs)
				given[k].Secs, space = space[:m], space[m:]
			}
			heldGiven := heldMemory[:copy(heldMemory, held)]
			for range 2 {
				if got := results(given, i, res, heldGiven); !slices.Equal(got, want) {
					t.Errorf("the results of %v, %d, %d, %v: %v, and before %v", l, i, res, held, got, want)
				}
			}
		}
	}
}

// R3: a nil list and an empty one are the same.
func TestNoListAndAnEmptyOne(t *testing.T) {
	for _, held := range holdings() {
		for i := -1; i <= 1; i++ {
			if a, b := results(nil, i, 0, held), results(tasks{}, i, 0, held); !slices.Equal(a, b) || !slices.Equal(a, []int{0, 0, 0, 0}) {
				t.Errorf("no tasks, %d, %v: %v, %v", i, held, a, b)
			}
		}
	}
	for _, l := range some() {
		empty := slices.Clone(l)
		for k := range empty {
			if len(empty[k].Secs) == 0 {
				empty[k].Secs = []api.Sec{}
			}
		}
		for i := range l {
			if a, b := results(l, i, 1, nil), results(empty, i, 1, []int{}); !slices.Equal(a, b) {
				t.Errorf("%v: %v, and with empty lists: %v", l, a, b)
			}
		}
	}
}

// R1: lists far beyond the limits, and any structs.
func TestEveryCallReturns(t *testing.T) {
	nothing(t, make(tasks, 1<<12))
	nothing(t, slices.Repeat(due(5), 1<<12))
	nothing(t, tasks{{C: 9, D: 12, T: 20, Secs: make([]api.Sec, 1<<16)}})
	held := slices.Repeat([]int{0, 3, math.MinInt, -1, math.MaxInt, 4}, 1<<14)
	if n := level.Held(shared(), held); n != 1 {
		t.Errorf("Held of a long list: %d", n)
	}
	if n := level.Held(shared(), append(held, 2)); n != 4 {
		t.Errorf("Held of a long list, with the highest at its end: %d", n)
	}
	if !level.Passes(shared(), 2, held) || level.Passes(shared(), 3, held) {
		t.Error("Passes with a long list")
	}
	ends := []int{math.MinInt, -1, 0, 1, math.MaxInt}
	for _, a := range ends {
		for _, b := range ends {
			for _, c := range ends {
				x := api.Task{C: a, D: b, T: c, Secs: []api.Sec{{Res: a, At: b, Len: c}, {Res: c, At: a, Len: b}}}
				nothing(t, tasks{x})
				nothing(t, tasks{using(5, 0, 1), x})
			}
		}
	}
}
