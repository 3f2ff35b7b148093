package task_test

import (
	"math"
	"math/rand"
	"slices"
	"testing"

	"remontoir/api"
	"remontoir/task"
)

type secs = []api.Sec

// of returns the sections of the numbers taken in threes: Res, At, Len.
func of(n ...int) secs {
	var l secs
	for i := 0; i+2 < len(n); i += 3 {
		l = append(l, api.Sec{Res: n[i], At: n[i+1], Len: n[i+2]})
	}
	return l
}

// with returns a task of 9 ticks with the sections of the numbers.
func with(n ...int) api.Task {
	return api.Task{C: 9, D: 12, T: 20, Secs: of(n...)}
}

// ticks returns the ticks of a section that is valid on its own.
func ticks(s api.Sec) map[int]bool {
	in := map[int]bool{}
	for t := s.At; t < s.At+s.Len; t++ {
		in[t] = true
	}
	return in
}

// pairRight is the document's word for two sections, tick by tick.
func pairRight(earlier, later api.Sec) bool {
	first, common, within := ticks(earlier), false, true
	for t := range ticks(later) {
		common = common || first[t]
		within = within && first[t]
	}
	return !common || within && earlier.Res != later.Res
}

// isValid is the document's word.
func isValid(t api.Task) bool {
	if t.C < 1 || t.C > t.D || t.D > t.T || t.T > 200 || len(t.Secs) > 4 {
		return false
	}
	for _, s := range t.Secs {
		if s.Res < 0 || s.Res > 3 || s.At < 0 || s.At > t.C || s.Len < 1 || s.Len > t.C || s.At+s.Len > t.C {
			return false
		}
	}
	for i := 1; i < len(t.Secs); i++ {
		before, s := t.Secs[i-1], t.Secs[i]
		if s.At < before.At || s.At == before.At && s.Len > before.Len {
			return false
		}
	}
	for j := range t.Secs {
		for i := range j {
			if !pairRight(t.Secs[i], t.Secs[j]) {
				return false
			}
		}
	}
	return true
}

// modelHeld is the document's word.
func modelHeld(t api.Task, had int) []int {
	var l []int
	if !isValid(t) {
		return l
	}
	for _, s := range t.Secs {
		begun, ended := had > s.At, had >= s.At+s.Len
		if begun && !ended {
			l = append(l, s.Res)
		}
	}
	return l
}

// modelUses is the document's word.
func modelUses(t api.Task, res int) bool {
	for _, s := range t.Secs {
		if isValid(t) && s.Res == res {
			return true
		}
	}
	return false
}

// modelSame is the document's word.
func modelSame(a, b api.Task) bool {
	if a.C != b.C || a.D != b.D || a.T != b.T || len(a.Secs) != len(b.Secs) {
		return false
	}
	for i := range a.Secs {
		if a.Secs[i].Res != b.Secs[i].Res || a.Secs[i].At != b.Secs[i].At || a.Secs[i].Len != b.Secs[i].Len {
			return false
		}
	}
	return true
}

// fitting returns tasks that are valid.
func fitting() []api.Task {
	return []api.Task{
		{C: 1, D: 1, T: 1}, {C: 1, D: 1, T: 200}, {C: 1, D: 200, T: 200}, {C: 200, D: 200, T: 200}, {C: 2, D: 4, T: 6}, {C: 4, D: 4, T: 6}, {C: 2, D: 6, T: 6},
		{C: 1, D: 1, T: 1, Secs: secs{}}, {C: 1, D: 1, T: 1, Secs: of(0, 0, 1)}, {C: 1, D: 1, T: 1, Secs: of(0, 0, 1, 1, 0, 1, 2, 0, 1, 3, 0, 1)},
		{C: 200, D: 200, T: 200, Secs: of(3, 0, 200)}, {C: 200, D: 200, T: 200, Secs: of(3, 199, 1)}, {C: 200, D: 200, T: 200, Secs: of(0, 0, 1, 1, 1, 199, 2, 198, 2)},
		{C: 5, D: 7, T: 9, Secs: of(0, 1, 3, 1, 2, 1)},
		with(0, 0, 9), with(3, 0, 1), with(0, 8, 1), with(2, 3, 6),
		with(0, 1, 3, 1, 5, 2), with(0, 1, 3, 0, 5, 2), with(0, 1, 3, 1, 4, 2), with(0, 1, 3, 0, 4, 2),
		with(0, 1, 5, 1, 2, 2), with(0, 1, 5, 1, 2, 4), with(0, 1, 5, 1, 1, 3), with(0, 1, 5, 1, 1, 5), with(1, 1, 5, 0, 1, 5),
		with(0, 0, 9, 1, 1, 7, 2, 2, 5, 3, 3, 3), with(3, 0, 9, 2, 1, 8, 1, 2, 7, 0, 3, 6), with(2, 0, 9, 0, 1, 3, 3, 2, 2, 0, 4, 4),
		with(0, 0, 9, 1, 0, 3, 1, 3, 3, 1, 6, 3), with(0, 0, 2, 0, 2, 2, 0, 4, 2, 0, 6, 2), with(1, 0, 4, 0, 1, 2, 0, 4, 4, 1, 5, 2), with(1, 0, 4, 2, 1, 1, 2, 2, 1, 1, 7, 1),
	}
}

// wrongTimes returns tasks whose C, D or T is not valid.
func wrongTimes() []api.Task {
	return []api.Task{
		{}, {C: 0, D: 1, T: 1}, {C: -1, D: 1, T: 1}, {C: 2, D: 1, T: 3}, {C: 5, D: 4, T: 6}, {C: 1, D: 3, T: 2}, {C: 2, D: 7, T: 6}, {C: 1, D: 1, T: 0}, {C: 1, D: 0, T: 1},
		{C: 1, D: 1, T: 201}, {C: 1, D: 201, T: 201}, {C: 201, D: 201, T: 201}, {C: 201, D: 200, T: 200}, {C: 1, D: 201, T: 200},
		{C: -3, D: -2, T: -1}, {C: math.MinInt, D: 1, T: 1}, {C: math.MinInt, D: math.MinInt, T: math.MinInt}, {C: math.MaxInt, D: 4, T: 6},
		{C: 1, D: math.MinInt, T: 1}, {C: 1, D: math.MaxInt, T: 6}, {C: 1, D: 1, T: math.MinInt}, {C: 1, D: 1, T: math.MaxInt},
		{C: math.MaxInt, D: math.MaxInt, T: math.MaxInt}, {C: math.MinInt, D: 0, T: math.MaxInt}, {C: 0, D: 0, T: 0, Secs: of(0, 0, 1)},
		{C: 9, D: 8, T: 20, Secs: of(0, 1, 3)}, {C: 9, D: 12, T: 11, Secs: of(0, 1, 3)}, {C: 9, D: 12, T: 201, Secs: of(0, 1, 3)},
		{C: math.MinInt, D: 12, T: 20, Secs: of(0, math.MaxInt, math.MaxInt)}, {C: 201, D: 201, T: 201, Secs: of(0, 1, 3)},
	}
}

// wrongSecs returns sections that are not valid on their own, for a C of 9.
func wrongSecs() secs {
	l := of(-1, 1, 3, 4, 1, 3, 5, 1, 3, math.MinInt, 1, 3, math.MaxInt, 1, 3,
		0, -1, 1, 0, -1, 5, 0, -1, 10, 0, 9, 1, 0, 10, 1, 0, 9, 0, 0, 10, 0, 0, 10, -1, 0, 3, 0, 0, 3, -1, 0, 0, 0, 0, 0, 10, 0, 1, 9, 0, 8, 2, 0, 3, 7)
	for _, n := range []int{math.MinInt, math.MinInt + 1, -api.MaxNum, api.MaxNum, api.MaxNum + 1, math.MaxInt - 1, math.MaxInt} {
		l = append(l, of(0, n, 1, 0, 1, n, 0, n, n, 0, n, -n, 0, n, math.MaxInt, 0, n, math.MinInt, 0, math.MaxInt, n, 0, math.MinInt, n, n, n, n)...)
	}
	return l
}

// wrongLists returns tasks whose sections are valid one by one, but not together.
func wrongLists() []api.Task {
	return []api.Task{
		with(0, 0, 1, 0, 1, 1, 0, 2, 1, 0, 3, 1, 0, 4, 1), with(0, 0, 9, 1, 0, 8, 2, 0, 7, 3, 0, 6, 3, 8, 1),
		with(0, 3, 1, 1, 1, 1), with(0, 5, 2, 1, 1, 4), with(1, 2, 1, 0, 1, 5), with(0, 1, 1, 1, 3, 1, 2, 2, 1), with(0, 0, 9, 1, 4, 1, 2, 2, 1),
		with(0, 1, 3, 1, 1, 4), with(0, 1, 1, 0, 1, 2), with(0, 0, 9, 1, 1, 3, 2, 1, 5),
		with(0, 1, 3, 1, 2, 3), with(0, 1, 3, 1, 3, 2), with(0, 1, 3, 0, 3, 2), with(0, 0, 8, 1, 7, 2), with(0, 0, 5, 1, 1, 2, 2, 4, 2), with(0, 0, 9, 1, 1, 4, 2, 4, 3),
		with(0, 0, 6, 1, 1, 1, 2, 3, 1, 3, 5, 2), with(0, 0, 9, 1, 1, 1, 2, 2, 4, 3, 5, 2),
		with(0, 1, 5, 0, 2, 2), with(0, 1, 5, 0, 1, 5), with(0, 1, 5, 0, 1, 2), with(0, 1, 5, 0, 3, 3), with(0, 0, 9, 1, 1, 5, 0, 2, 2), with(0, 0, 9, 1, 1, 5, 1, 3, 1),
		with(0, 0, 9, 1, 1, 1, 2, 3, 1, 0, 5, 1), with(3, 0, 9, 2, 0, 9, 1, 0, 9, 3, 0, 9), with(0, 0, 9, 1, 1, 7, 2, 2, 5, 2, 3, 3),
	}
}

// wrong returns tasks that are not valid.
func wrong() []api.Task {
	out := append(wrongTimes(), wrongLists()...)
	for _, s := range wrongSecs() {
		out = append(out, api.Task{C: 9, D: 12, T: 20, Secs: secs{s}}, api.Task{C: 9, D: 12, T: 20, Secs: secs{{Res: 1, At: 0, Len: 9}, s}},
			api.Task{C: 9, D: 12, T: 20, Secs: secs{s, {Res: 1, At: 8, Len: 1}}})
	}
	return append(out, api.Task{C: 9, D: 12, T: 20, Secs: make(secs, 1000)}, api.Task{C: 1, D: 1, T: 1, Secs: slices.Repeat(of(0, 0, 1), 5)})
}

// pairs returns tasks of 4 ticks with all lists of at most two sections that begin just before them or within them.
func pairs() []api.Task {
	var one secs
	for res := range 2 {
		for at := -1; at <= 4; at++ {
			for n := 0; n <= 5; n++ {
				one = append(one, api.Sec{Res: res, At: at, Len: n})
			}
		}
	}
	out := []api.Task{{C: 4, D: 5, T: 6}}
	for _, a := range one {
		out = append(out, api.Task{C: 4, D: 5, T: 6, Secs: secs{a}})
		for _, b := range one {
			out = append(out, api.Task{C: 4, D: 5, T: 6, Secs: secs{a, b}})
		}
	}
	return out
}

// triples returns tasks of 3 ticks with all lists of three sections of three resources that are valid one by one.
func triples() []api.Task {
	var one secs
	for res := range 3 {
		for at := range 3 {
			for n := 1; at+n <= 3; n++ {
				one = append(one, api.Sec{Res: res, At: at, Len: n})
			}
		}
	}
	var out []api.Task
	for _, a := range one {
		for _, b := range one {
			for _, c := range one {
				out = append(out, api.Task{C: 3, D: 3, T: 3, Secs: secs{a, b, c}})
			}
		}
	}
	return out
}

// mixed returns tasks with sections by chance, many of them in order, so that a good part is valid.
func mixed() []api.Task {
	r := rand.New(rand.NewSource(5))
	var out []api.Task
	for range 20000 {
		c := 1 + r.Intn(12)
		t := api.Task{C: c, D: c + r.Intn(3), T: c + r.Intn(5)}
		for range r.Intn(6) {
			at := r.Intn(c)
			t.Secs = append(t.Secs, api.Sec{Res: r.Intn(4), At: at, Len: 1 + r.Intn(c-at)})
		}
		if r.Intn(4) > 0 {
			slices.SortFunc(t.Secs, func(a, b api.Sec) int {
				if a.At != b.At {
					return a.At - b.At
				}
				return b.Len - a.Len
			})
		}
		out = append(out, t)
	}
	return out
}

// tasks returns all of these.
func tasks() []api.Task {
	return slices.Concat(fitting(), wrong(), pairs(), triples(), mixed())
}

// marks returns numbers of ticks: the edges of the sections of t, those beside them, and the ends of int.
func marks(t api.Task) []int {
	at := []int{math.MinInt, math.MinInt + 1, -api.MaxNum, -2, -1, 0, 1, t.C - 1, t.C, t.C + 1, 200, 1000, api.MaxNum, math.MaxInt - 1, math.MaxInt}
	for _, s := range t.Secs {
		end := s.At + s.Len
		at = append(at, s.At-1, s.At, s.At+1, end-1, end, end+1)
	}
	slices.Sort(at)
	return slices.Compact(at)
}

// P5.1
func TestRight(t *testing.T) {
	for _, x := range fitting() {
		if !task.Right(x) {
			t.Errorf("Right(%v): false", x)
		}
	}
	for _, x := range wrong() {
		if task.Right(x) {
			t.Errorf("Right(%v): true", x)
		}
	}
}

// P5.1: every C, D and T around the limits.
func TestRightOfTimes(t *testing.T) {
	near := []int{math.MinInt, -1, 0, 1, 2, 3, 199, 200, 201, math.MaxInt}
	for _, c := range near {
		for _, d := range near {
			for _, p := range near {
				x := api.Task{C: c, D: d, T: p}
				if got, want := task.Right(x), c >= 1 && c <= d && d <= p && p <= api.MaxTime; got != want {
					t.Errorf("Right(%v): %v", x, got)
				}
			}
		}
	}
}

// P5.1: every section around the limits, on its own.
func TestRightOfOneSection(t *testing.T) {
	const c = 9
	near := []int{math.MinInt, math.MinInt + 1, -2, -1, 0, 1, 2, 3, 4, 5, c - 1, c, c + 1, 200, api.MaxNum, math.MaxInt - c, math.MaxInt - 1, math.MaxInt}
	for _, res := range near {
		for _, at := range near {
			for _, n := range near {
				small := res >= 0 && res < api.MaxRes && at >= 0 && at <= c && n >= 1 && n <= c
				if got, want := task.Right(with(res, at, n)), small && at+n <= c; got != want {
					t.Errorf("Right with the section of %d at %d for %d: %v", res, at, n, got)
				}
			}
		}
	}
}

// P5.1
func TestRightOfTheNumberOfSections(t *testing.T) {
	for n := range 9 {
		x := api.Task{C: 20, D: 20, T: 20}
		for i := range n {
			x.Secs = append(x.Secs, api.Sec{Res: i % api.MaxRes, At: 2 * i, Len: 1})
		}
		if got := task.Right(x); got != (n <= api.MaxSecs) {
			t.Errorf("Right of a task with %d sections: %v", n, got)
		}
	}
}

// P5.1
func TestRightAsDescribed(t *testing.T) {
	count := map[bool]int{}
	for _, x := range tasks() {
		got := task.Right(x)
		if got != isValid(x) {
			t.Errorf("Right(%v): %v", x, got)
		}
		count[got]++
	}
	if count[true] < 1000 || count[false] < 1000 {
		t.Errorf("too few tasks of one kind: %v", count)
	}
}

// P5.1
func TestAll(t *testing.T) {
	good := api.Task{C: 5, D: 7, T: 9, Secs: of(0, 1, 3, 1, 2, 1)}
	for n := range 12 {
		if got := task.All(slices.Repeat([]api.Task{good}, n)); got != (n <= api.MaxTasks) {
			t.Errorf("All of %d tasks: %v", n, got)
		}
	}
	if !task.All(nil) || !task.All([]api.Task{}) || !task.All(fitting()[:8]) || task.All(fitting()[:9]) || task.All(fitting()) {
		t.Error("All of none, eight and more")
	}
	for _, x := range fitting() {
		if !task.All([]api.Task{x}) || !task.All([]api.Task{good, x, good}) {
			t.Errorf("All with %v: false", x)
		}
	}
	for _, x := range wrong() {
		for n := 1; n <= api.MaxTasks+1; n++ {
			for at := range n {
				l := slices.Repeat([]api.Task{good}, n)
				l[at] = x
				if task.All(l) {
					t.Errorf("All of %d tasks, with %v at %d: true", n, x, at)
				}
			}
		}
	}
}

// P5.1: tasks are the same if all their numbers are, valid or not.
func TestSame(t *testing.T) {
	all := slices.Concat(fitting(), wrong())
	for _, a := range all {
		for _, b := range all {
			if got := task.Same(a, b); got != modelSame(a, b) {
				t.Errorf("Same(%v, %v): %v", a, b, got)
			}
		}
		copied := a
		copied.Secs = append(secs{}, a.Secs...)
		if !task.Same(a, copied) || !task.Same(copied, a) || !task.Same(a, a) {
			t.Errorf("Same(%v, %v): false", a, copied)
		}
	}
}

// others returns the tasks that differ from x in one number alone, or in one section more or less.
func others(x api.Task) []api.Task {
	var out []api.Task
	vary := func(pick func(t *api.Task) *int) {
		for _, by := range []int{-1, 1, math.MinInt} {
			t := x
			t.Secs = slices.Clone(x.Secs)
			*pick(&t) += by
			out = append(out, t)
		}
	}
	vary(func(t *api.Task) *int { return &t.C })
	vary(func(t *api.Task) *int { return &t.D })
	vary(func(t *api.Task) *int { return &t.T })
	for i := range x.Secs {
		vary(func(t *api.Task) *int { return &t.Secs[i].Res })
		vary(func(t *api.Task) *int { return &t.Secs[i].At })
		vary(func(t *api.Task) *int { return &t.Secs[i].Len })
		fewer := x
		fewer.Secs = slices.Delete(slices.Clone(x.Secs), i, i+1)
		out = append(out, fewer)
	}
	for i := range len(x.Secs) + 1 {
		more := x
		more.Secs = slices.Insert(slices.Clone(x.Secs), i, api.Sec{})
		out = append(out, more)
	}
	return out
}

// P5.1
func TestSameWithOneDifference(t *testing.T) {
	for _, x := range slices.Concat(fitting(), wrongTimes(), wrongLists()) {
		for _, y := range others(x) {
			if task.Same(x, y) || task.Same(y, x) {
				t.Errorf("Same(%v, %v): true", x, y)
			}
		}
	}
	a, b := with(0, 1, 1, 1, 3, 1), with(1, 3, 1, 0, 1, 1)
	if task.Same(a, b) || task.Same(b, a) {
		t.Error("Same: the order of the sections counts")
	}
	none, empty := api.Task{C: 1, D: 1, T: 1}, api.Task{C: 1, D: 1, T: 1, Secs: secs{}}
	if !task.Same(none, empty) || !task.Same(empty, none) || !task.Same(api.Task{}, api.Task{Secs: secs{}}) {
		t.Error("Same: no list, and one without sections")
	}
}

// P5.2
func TestHeld(t *testing.T) {
	rows := []struct {
		t    api.Task
		want [][]int // by the number of ticks, from 0 on
	}{
		{api.Task{C: 3, D: 3, T: 3}, [][]int{{}, {}, {}, {}, {}}},
		{api.Task{C: 5, D: 7, T: 9, Secs: of(0, 1, 3, 1, 2, 1)}, [][]int{{}, {}, {0}, {0}, {}, {}, {}}},
		{api.Task{C: 5, D: 7, T: 9, Secs: of(0, 0, 5)}, [][]int{{}, {0}, {0}, {0}, {0}, {}, {}}},
		{api.Task{C: 5, D: 7, T: 9, Secs: of(3, 0, 1, 3, 1, 1, 3, 2, 1, 3, 3, 1)}, [][]int{{}, {}, {}, {}, {}, {}, {}}},
		{api.Task{C: 5, D: 7, T: 9, Secs: of(2, 0, 2, 2, 2, 2)}, [][]int{{}, {2}, {}, {2}, {}, {}, {}}},
		{with(0, 0, 9, 1, 1, 7, 2, 2, 5, 3, 3, 3), [][]int{{}, {0}, {0, 1}, {0, 1, 2}, {0, 1, 2, 3}, {0, 1, 2, 3}, {0, 1, 2}, {0, 1}, {0}, {}, {}}},
		{with(3, 0, 9, 2, 1, 8, 1, 2, 7, 0, 3, 6), [][]int{{}, {3}, {3, 2}, {3, 2, 1}, {3, 2, 1, 0}, {3, 2, 1, 0}, {3, 2, 1, 0}, {3, 2, 1, 0}, {3, 2, 1, 0}, {}, {}}},
		{with(2, 0, 9, 0, 1, 3, 3, 2, 2, 0, 4, 4), [][]int{{}, {2}, {2, 0}, {2, 0, 3}, {2}, {2, 0}, {2, 0}, {2, 0}, {2}, {}, {}}},
		{with(1, 1, 5, 0, 1, 5), [][]int{{}, {}, {1, 0}, {1, 0}, {1, 0}, {1, 0}, {}, {}}},
	}
	for _, r := range rows {
		for had, want := range r.want {
			if got := task.Held(r.t, had); !slices.Equal(got, want) {
				t.Errorf("Held(%v, %d): %v, want %v", r.t, had, got, want)
			}
		}
	}
}

// P5.2
func TestHeldAsDescribed(t *testing.T) {
	for _, x := range tasks() {
		for _, had := range marks(x) {
			if got := task.Held(x, had); !slices.Equal(got, modelHeld(x, had)) {
				t.Errorf("Held(%v, %d): %v", x, had, got)
			}
		}
	}
}

// P5.2: nothing is held, and nothing is used, by a task that is not valid.
func TestNothingOfATaskThatIsNotValid(t *testing.T) {
	for _, x := range wrong() {
		for _, had := range marks(x) {
			if got := task.Held(x, had); len(got) != 0 {
				t.Errorf("Held(%v, %d): %v", x, had, got)
			}
		}
		named := []int{0, 1, 2, 3}
		for _, s := range x.Secs {
			named = append(named, s.Res)
		}
		for _, res := range named {
			if task.Uses(x, res) {
				t.Errorf("Uses(%v, %d): true", x, res)
			}
		}
	}
}

// P5.2
func TestUses(t *testing.T) {
	x := with(2, 0, 9, 0, 1, 3, 2, 9, 0)
	if task.Uses(x, 2) || task.Uses(x, 0) {
		t.Error("Uses, with a section that is not valid")
	}
	x = with(2, 0, 9, 0, 1, 3)
	for res, want := range map[int]bool{0: true, 1: false, 2: true, 3: false, -1: false, 4: false, 9: false, math.MinInt: false, math.MaxInt: false} {
		if got := task.Uses(x, res); got != want {
			t.Errorf("Uses(%v, %d): %v", x, res, got)
		}
	}
	for _, x := range tasks() {
		for _, res := range []int{math.MinInt, -1, 0, 1, 2, 3, 4, 5, math.MaxInt} {
			if got := task.Uses(x, res); got != modelUses(x, res) {
				t.Errorf("Uses(%v, %d): %v", x, res, got)
			}
		}
	}
}

// P5.3
func TestNothingIsHeldTwiceNorAtTheEnds(t *testing.T) {
	most := 0
	for _, x := range tasks() {
		for had := -1; had <= min(max(x.C, 0), 300)+1; had++ {
			held := task.Held(x, had)
			most = max(most, len(held))
			slices.Sort(held)
			if len(slices.Compact(slices.Clone(held))) != len(held) {
				t.Errorf("Held(%v, %d): one of %v twice", x, had, held)
			}
			if (had <= 0 || had >= x.C) && len(held) > 0 {
				t.Errorf("Held(%v, %d): %v at an end", x, had, held)
			}
		}
	}
	if most != api.MaxSecs {
		t.Errorf("no task that holds as many as there may be, but %d", most)
	}
}

// P5.4: what is new after a tick began with it, and what was there before is still in its order.
func TestHeldTickByTick(t *testing.T) {
	for _, x := range tasks() {
		for had := 0; had <= min(max(x.C, 0), 300); had++ {
			before, after := task.Held(x, had), task.Held(x, had+1)
			var begun []int
			for _, s := range x.Secs {
				if s.At == had {
					begun = append(begun, s.Res)
				}
			}
			kept := slices.DeleteFunc(slices.Clone(after), func(res int) bool { return !slices.Contains(before, res) })
			for _, res := range after {
				if !slices.Contains(before, res) && !slices.Contains(begun, res) {
					t.Errorf("%v: %d is held after tick %d, not before it, and did not begin with it", x, res, had)
				}
			}
			if !slices.Equal(kept, before[:min(len(kept), len(before))]) {
				t.Errorf("%v: %v is held before tick %d, and %v of it after", x, before, had, kept)
			}
		}
	}
}

// The example of the chapter.
func TestExample(t *testing.T) {
	x := api.Task{C: 5, D: 7, T: 9, Secs: of(0, 1, 3, 1, 2, 1)}
	if !task.Right(x) || !slices.Equal(task.Held(x, 2), []int{0}) || !slices.Equal(task.Held(x, 3), []int{0}) || len(task.Held(x, 4)) != 0 {
		t.Errorf("held after 2, 3 and 4: %v, %v, %v", task.Held(x, 2), task.Held(x, 3), task.Held(x, 4))
	}
}

type call struct {
	name string
	do   func(l []api.Task) []int
}

// calls returns all the calls, each with what it returns for the first of the tasks, or for all, as a list.
func calls() []call {
	truth := func(b bool) []int {
		if b {
			return []int{1}
		}
		return nil
	}
	return []call{
		{"Right", func(l []api.Task) []int { return truth(task.Right(l[0])) }},
		{"All", func(l []api.Task) []int { return truth(task.All(l)) }},
		{"Held", func(l []api.Task) []int { return task.Held(l[0], 4) }},
		{"Held at the end", func(l []api.Task) []int { return task.Held(l[0], l[0].C) }},
		{"Uses", func(l []api.Task) []int { return truth(task.Uses(l[0], 1)) }},
		{"Same", func(l []api.Task) []int { return truth(task.Same(l[0], l[1])) }},
	}
}

// laid returns x with its sections in new memory, with others behind them; and that memory, as a whole.
func laid(x api.Task, spare int) (api.Task, secs) {
	whole := append(slices.Clip(append(secs{}, x.Secs...)), slices.Repeat(of(1, 2, 5), spare)...)
	x.Secs = whole[:len(x.Secs)]
	return x, whole
}

// R3: no call changes the tasks, their sections, or what lies behind them, and no result shares memory with them.
func TestMemory(t *testing.T) {
	for _, c := range calls() {
		for _, x := range slices.Concat(fitting(), wrong()) {
			for spare := range 3 {
				a, memory := laid(x, spare)
				b, other := laid(x, 0)
				list := []api.Task{a, b, {C: 1, D: 1, T: 1}}
				memoryBefore, otherBefore := slices.Clone(memory), slices.Clone(other)
				got := c.do(list[:2])
				same := task.Same(list[0], x) && task.Same(list[1], x) && task.Same(list[2], api.Task{C: 1, D: 1, T: 1})
				if !same || !slices.Equal(memory, memoryBefore) || !slices.Equal(other, otherBefore) {
					t.Errorf("%s of %v changed its argument: %v, %v", c.name, x, list, memory)
				}
				kept := slices.Clone(got)
				for i := range memory {
					memory[i] = api.Sec{Res: -77, At: -77, Len: -77}
				}
				if !slices.Equal(got, kept) {
					t.Errorf("%s of %v keeps its argument", c.name, x)
				}
			}
		}
	}
}

// R3, R4: what is returned is new memory every time, spare capacity included, and is the same again whatever has been done to the first.
func TestResultsAreNewAndTheSameAgain(t *testing.T) {
	for _, c := range calls() {
		for _, x := range slices.Concat(fitting(), wrong()) {
			l := []api.Task{x, x}
			first := c.do(l)
			second := c.do(l)
			if !slices.Equal(first, second) {
				t.Errorf("%s of %v: %v, and again: %v", c.name, x, first, second)
			}
			kept := slices.Clone(second[:cap(second)])
			for i := range first[:cap(first)] {
				first[:cap(first)][i] = -77
			}
			if !slices.Equal(second[:cap(second)], kept) || !slices.Equal(c.do(l), second) {
				t.Errorf("%s of %v: two results share memory", c.name, x)
			}
		}
	}
}

// R1: lists far beyond the limits, and any structs.
func TestEveryCallReturns(t *testing.T) {
	long := api.Task{C: 9, D: 12, T: 20, Secs: slices.Repeat(of(0, 1, 3), 1<<16)}
	if task.Right(long) || task.All([]api.Task{long}) || task.All(make([]api.Task, 1<<16)) || len(task.Held(long, 2)) != 0 || task.Uses(long, 0) || !task.Same(long, long) {
		t.Error("a task with far too many sections")
	}
	ends := []int{math.MinInt, -1, 0, 1, math.MaxInt}
	for _, a := range ends {
		for _, b := range ends {
			for _, c := range ends {
				x := api.Task{C: a, D: b, T: c, Secs: of(a, b, c, c, b, a, b, c, a)}
				if task.Right(x) || task.All([]api.Task{x}) || len(task.Held(x, a)) != 0 || task.Uses(x, a) || !task.Same(x, x) {
					t.Errorf("a task of the ends of int: %v", x)
				}
			}
		}
	}
}
