package image_test

import (
	"math"
	"math/rand"
	"slices"
	"testing"

	"remontoir/api"
	"remontoir/image"
)

type (
	config = api.Config
	parts  = []api.Part
	tasks  = []api.Task
	secs   = []api.Sec
	ports  = []api.Port
)

// ends returns the numbers at the ends of int, and others far away from what is valid, some of which have a valid lowest byte.
func ends() []int {
	return []int{math.MinInt, math.MinInt + 1, -api.MaxNum, -1<<32 + 1, -255, 1<<8 + 1, 1<<16 + 2, 1<<32 + 1, api.MaxNum, math.MaxInt - 1, math.MaxInt}
}

// around returns numbers around all limits, and the ends.
func around() []int {
	return append(ends(), -2, -1, 0, 1, 2, 3, 4, 5, 6, 8, 9, 199, 200, 201, 240, 254, 255, 256, 257)
}

// nested returns as many sections as there may be, one within the other, for a task of 9 ticks.
func nested() secs {
	return secs{{Res: 3, At: 0, Len: 9}, {Res: 0, At: 1, Len: 7}, {Res: 2, At: 2, Len: 5}, {Res: 1, At: 6, Len: 1}}
}

// some returns a system with few partitions and ports, and what may be in these.
func some() config {
	return config{
		Parts: parts{
			{Face: api.Face{P: 4, B: 2}, Tasks: tasks{{C: 3, D: 9, T: 200, Secs: secs{{Res: 1, At: 1, Len: 2}}}, {C: 1, D: 2, T: 3}}},
			{Face: api.Face{P: 200, B: 1}},
			{Face: api.Face{P: 7, B: 7}, Tasks: tasks{{C: 9, D: 10, T: 11, Secs: nested()}}},
		},
		Ports: ports{{From: 1, To: 0, Cap: 4}, {From: 0, To: 2, Cap: 1}},
	}
}

// full returns a system with as many partitions, tasks, sections and ports as there may be, all different.
func full() config {
	var c config
	for i := range api.MaxParts {
		p := api.Part{Face: api.Face{P: 200 - i, B: 150 + i}}
		for j := range api.MaxTasks {
			p.Tasks = append(p.Tasks, api.Task{C: 9 + i, D: 30 + j, T: 193 + j, Secs: nested()})
		}
		c.Parts = append(c.Parts, p)
		c.Ports = append(c.Ports, api.Port{From: i, To: (i + 1) % api.MaxParts, Cap: 1 + i})
	}
	return c
}

// mostBytes is the number of bytes of the encoding of a full system.
const mostBytes = 3 + 1 + api.MaxParts*(3+api.MaxTasks*(4+3*api.MaxSecs)) + 1 + 3*api.MaxPorts

// bare returns a system with n partitions that have no tasks, and these ports.
func bare(n int, l ...api.Port) config {
	return config{Parts: slices.Repeat(parts{{Face: api.Face{P: 2, B: 1}}}, n), Ports: l}
}

// one returns a system with one partition of these tasks.
func one(l ...api.Task) config {
	return config{Parts: parts{{Face: api.Face{P: 2, B: 1}, Tasks: l}}}
}

// faced returns a system with one partition that has this interface.
func faced(p, b int) config {
	return config{Parts: parts{{Face: api.Face{P: p, B: b}}}}
}

// copied returns a system in new memory.
func copied(c config) config {
	out := config{Parts: slices.Clone(c.Parts), Ports: slices.Clone(c.Ports)}
	for i := range out.Parts {
		p := &out.Parts[i]
		p.Tasks = slices.Clone(p.Tasks)
		for j := range p.Tasks {
			p.Tasks[j].Secs = slices.Clone(p.Tasks[j].Secs)
		}
	}
	return out
}

// flat returns the numbers of a system, with the number of items ahead of each list.
func flat(c config) []int {
	out := []int{len(c.Parts)}
	for _, p := range c.Parts {
		out = append(out, p.Face.P, p.Face.B, len(p.Tasks))
		for _, t := range p.Tasks {
			out = append(out, t.C, t.D, t.T, len(t.Secs))
			for _, s := range t.Secs {
				out = append(out, s.Res, s.At, s.Len)
			}
		}
	}
	out = append(out, len(c.Ports))
	for _, p := range c.Ports {
		out = append(out, p.From, p.To, p.Cap)
	}
	return out
}

// places returns where the numbers of a system are.
func places(c config) []*int {
	var out []*int
	for i := range c.Parts {
		p := &c.Parts[i]
		out = append(out, &p.Face.P, &p.Face.B)
		for j := range p.Tasks {
			t := &p.Tasks[j]
			out = append(out, &t.C, &t.D, &t.T)
			for k := range t.Secs {
				out = append(out, &t.Secs[k].Res, &t.Secs[k].At, &t.Secs[k].Len)
			}
		}
	}
	for i := range c.Ports {
		out = append(out, &c.Ports[i].From, &c.Ports[i].To, &c.Ports[i].Cap)
	}
	return out
}

// modelSec is the document's word for a section on its own, in a task with that C, which is not below 0.
func modelSec(s api.Sec, c int) bool {
	return s.Res >= 0 && s.Res <= 3 && s.At >= 0 && s.At <= c && s.Len >= 1 && s.Len <= c && s.At+s.Len <= c
}

// modelPair is the document's word for two sections that are valid on their own.
func modelPair(s, later api.Sec) bool {
	if later.At < s.At || later.At == s.At && later.Len > s.Len {
		return false
	}
	common, within := false, true
	for tick := later.At; tick < later.At+later.Len; tick++ {
		in := tick >= s.At && tick < s.At+s.Len
		common, within = common || in, within && in
	}
	return !common || within && s.Res != later.Res
}

// modelTask is the document's word.
func modelTask(t api.Task) bool {
	if t.C < 1 || t.C > t.D || t.D > t.T || t.T > 200 || len(t.Secs) > 4 {
		return false
	}
	for k, s := range t.Secs {
		if !modelSec(s, t.C) {
			return false
		}
		for _, before := range t.Secs[:k] {
			if !modelPair(before, s) {
				return false
			}
		}
	}
	return true
}

// modelPart is the document's word.
func modelPart(p api.Part) bool {
	for _, t := range p.Tasks {
		if !modelTask(t) {
			return false
		}
	}
	return len(p.Tasks) <= 8 && p.Face.B >= 1 && p.Face.B <= p.Face.P && p.Face.P <= 200
}

// modelRight is the document's word.
func modelRight(c config) bool {
	for _, p := range c.Parts {
		if !modelPart(p) {
			return false
		}
	}
	for _, p := range c.Ports {
		if p.From < 0 || p.From >= len(c.Parts) || p.To < 0 || p.To >= len(c.Parts) || p.From == p.To || p.Cap < 1 || p.Cap > 4 {
			return false
		}
	}
	return len(c.Parts) <= 4 && len(c.Ports) <= 4
}

// modelBytes is the document's word for the encoding of a valid system.
func modelBytes(c config) []byte {
	out := []byte{0x54, 0x4b, 0x31}
	for _, n := range flat(c) {
		out = append(out, byte(n))
	}
	return out
}

// check holds Right and Encode of a system against the document's words, and Decode of what is encoded (P19.3).
func check(t *testing.T, c config) bool {
	t.Helper()
	want := modelRight(c)
	if got := image.Right(c); got != want {
		t.Fatalf("Right of %+v: %v", c, got)
	}
	b, err := image.Encode(c)
	if !want {
		if err != api.ErrArg || len(b) != 0 {
			t.Fatalf("Encode of %+v: %x, %d", c, b, err)
		}
		return want
	}
	if err != api.OK || !slices.Equal(b, modelBytes(c)) {
		t.Fatalf("Encode of %+v: %x, %d, want %x", c, b, err, modelBytes(c))
	}
	d, at, err := image.Decode(b)
	if err != api.OK || at != 0 || !slices.Equal(flat(d), flat(c)) || !image.Same(c, d) || !image.Same(d, c) {
		t.Fatalf("Decode of Encode of %+v: %+v, %d, %d", c, d, at, err)
	}
	return want
}

// checkSame holds Same of two systems against the document's words.
func checkSame(t *testing.T, a, b config) {
	t.Helper()
	want := slices.Equal(flat(a), flat(b))
	if image.Same(a, b) != want || image.Same(b, a) != want {
		t.Fatalf("Same of %+v and %+v: not %v", a, b, want)
	}
}

// judged checks a system, and that it is valid, or not.
func judged(t *testing.T, c config, want bool) {
	t.Helper()
	if check(t, c) != want {
		t.Errorf("Right of %+v: not %v", c, want)
	}
}

// P19.1: the numbers of partitions and of ports.
func TestHowManyPartitionsAndPorts(t *testing.T) {
	for n := range 3 * api.MaxParts {
		judged(t, bare(n), n <= api.MaxParts)
		for m := range 3 * api.MaxPorts {
			l := slices.Repeat(ports{{From: 1, To: 0, Cap: 2}}, m)
			judged(t, bare(n, l...), n <= api.MaxParts && m <= api.MaxPorts && (n > 1 || m == 0))
		}
	}
	for _, n := range []int{254, 255, 256, 257, 256 + api.MaxParts, 1 << 16} {
		judged(t, bare(n), false)
		judged(t, bare(2, slices.Repeat(ports{{From: 1, To: 0, Cap: 2}}, n)...), false)
		judged(t, one(slices.Repeat(tasks{{C: 1, D: 1, T: 1}}, n)...), false)
		judged(t, one(api.Task{C: 200, D: 200, T: 200, Secs: slices.Repeat(secs{{Res: 0, At: 0, Len: 1}}, n)}), false)
	}
	judged(t, config{}, true)
	judged(t, some(), true)
	judged(t, full(), true)
	if b, err := image.Encode(full()); len(b) != mostBytes || err != api.OK {
		t.Errorf("Encode of a full system: %d bytes, %d", len(b), err)
	}
}

// P19.1: the numbers of tasks and of sections, in each partition.
func TestHowManyTasksAndSections(t *testing.T) {
	row := secs{{Res: 0, At: 0, Len: 2}, {Res: 1, At: 2, Len: 2}, {Res: 2, At: 4, Len: 2}, {Res: 3, At: 6, Len: 2}, {Res: 0, At: 8, Len: 1}, {Res: 1, At: 9, Len: 1}}
	for i := range api.MaxParts {
		for n := range 2*api.MaxTasks + 1 {
			c := full()
			c.Parts[i].Tasks = slices.Repeat(tasks{{C: 2, D: 3, T: 5}}, n)
			judged(t, c, n <= api.MaxTasks)
		}
		for j := range api.MaxTasks {
			for n := range len(row) + 1 {
				c := full()
				c.Parts[i].Tasks[j] = api.Task{C: 10, D: 10, T: 10, Secs: row[:n]}
				judged(t, c, n <= api.MaxSecs)
			}
		}
	}
}

// P19.1: interfaces that are just valid, and that are not, in each partition.
func TestInterfaces(t *testing.T) {
	valid := 0
	for _, p := range append(around(), 100) {
		for _, b := range append(around(), 99, 100, 101) {
			if check(t, faced(p, b)) {
				valid++
			}
			for i := range api.MaxParts {
				c := bare(api.MaxParts)
				c.Parts[i].Face = api.Face{P: p, B: b}
				judged(t, c, 1 <= b && b <= p && p <= 200)
			}
		}
	}
	if valid < 30 {
		t.Errorf("only %d of them are valid", valid)
	}
	for _, f := range []api.Face{{P: 1, B: 1}, {P: 200, B: 1}, {P: 200, B: 200}} {
		judged(t, faced(f.P, f.B), true)
	}
	for _, f := range []api.Face{{}, {P: 1, B: 0}, {P: 0, B: 1}, {P: 1, B: 2}, {P: 201, B: 1}, {P: 201, B: 201}, {P: 256, B: 1}, {P: 257, B: 1}, {P: -1, B: -1}} {
		judged(t, faced(f.P, f.B), false)
	}
}

// P19.1: tasks that are just valid, and that are not, as each task of each partition.
func TestTasks(t *testing.T) {
	right := tasks{
		{C: 1, D: 1, T: 1}, {C: 1, D: 1, T: 200}, {C: 1, D: 200, T: 200}, {C: 200, D: 200, T: 200}, {C: 9, D: 9, T: 9, Secs: nested()},
		{C: 200, D: 200, T: 200, Secs: secs{{Res: 3, At: 0, Len: 200}}}, {C: 200, D: 200, T: 200, Secs: secs{{Res: 0, At: 199, Len: 1}}},
		{C: 2, D: 2, T: 2, Secs: secs{{Res: 1, At: 0, Len: 2}, {Res: 2, At: 0, Len: 2}}}, {C: 2, D: 2, T: 2, Secs: secs{{Res: 1, At: 0, Len: 1}, {Res: 1, At: 1, Len: 1}}},
	}
	wrong := tasks{
		{}, {C: 0, D: 1, T: 1}, {C: 2, D: 1, T: 2}, {C: 1, D: 2, T: 1}, {C: 1, D: 1, T: 201}, {C: 201, D: 201, T: 201}, {C: 1, D: 1, T: 257}, {C: -1, D: 1, T: 1},
		{C: 2, D: 2, T: 2, Secs: secs{{}}}, {C: 2, D: 2, T: 2, Secs: secs{{Res: 4, At: 0, Len: 1}}}, {C: 2, D: 2, T: 2, Secs: secs{{Res: -1, At: 0, Len: 1}}},
		{C: 2, D: 2, T: 2, Secs: secs{{Res: 0, At: -1, Len: 1}}}, {C: 2, D: 2, T: 2, Secs: secs{{Res: 0, At: 0, Len: 3}}}, {C: 2, D: 2, T: 2, Secs: secs{{Res: 0, At: 2, Len: 1}}},
		{C: 2, D: 2, T: 2, Secs: secs{{Res: 1, At: 0, Len: 2}, {Res: 1, At: 1, Len: 1}}}, {C: 2, D: 2, T: 2, Secs: secs{{Res: 1, At: 0, Len: 1}, {Res: 2, At: 0, Len: 2}}},
		{C: 3, D: 3, T: 3, Secs: secs{{Res: 1, At: 0, Len: 2}, {Res: 2, At: 1, Len: 2}}}, {C: 2, D: 2, T: 2, Secs: secs{{Res: 1, At: 1, Len: 1}, {Res: 2, At: 0, Len: 1}}},
	}
	for i := range api.MaxParts {
		for j := range api.MaxTasks {
			for _, x := range right {
				c := full()
				c.Parts[i].Tasks[j] = x
				judged(t, c, true)
				judged(t, one(x), true)
			}
			for _, x := range wrong {
				c := full()
				c.Parts[i].Tasks[j] = x
				judged(t, c, false)
				judged(t, one(x), false)
			}
		}
	}
}

// P19.1: ports with numbers around all limits, with any number of partitions.
func TestPorts(t *testing.T) {
	for n := range api.MaxParts + 2 {
		valid := 0
		for _, from := range around() {
			for _, to := range around() {
				for _, places := range around() {
					if check(t, bare(n, api.Port{From: from, To: to, Cap: places})) {
						valid++
					}
				}
			}
		}
		if want := n * (n - 1) * api.MaxQueue; n <= api.MaxParts && valid != want || n > api.MaxParts && valid != 0 {
			t.Errorf("with %d partitions %d ports are valid", n, valid)
		}
	}
}

// P19.1: a port that is not valid, or that goes from, or to, a partition that is not there, at each place.
func TestPortsAtEachPlace(t *testing.T) {
	for n := 2; n <= api.MaxParts; n++ {
		for many := 1; many <= api.MaxPorts; many++ {
			for i := range many {
				for _, bad := range (ports{{}, {From: n, To: 0, Cap: 1}, {From: 0, To: n, Cap: 1}, {From: n, To: n + 1, Cap: 1}, {From: -1, To: 0, Cap: 1}, {From: 0, To: -1, Cap: 1}, {From: 1, To: 1, Cap: 1}, {From: 0, To: 1, Cap: 0}, {From: 0, To: 1, Cap: 5}, {From: 256, To: 1, Cap: 1}}) {
					l := slices.Repeat(ports{{From: n - 1, To: 0, Cap: 1}}, many)
					judged(t, bare(n, l...), true)
					l[i] = bad
					judged(t, bare(n, l...), false)
				}
			}
		}
	}
	for _, p := range (ports{{From: 0, To: 1, Cap: 1}, {From: 1, To: 0, Cap: 1}, {From: 0, To: 0, Cap: 1}}) {
		judged(t, bare(0, p), false)
		judged(t, bare(1, p), false)
	}
}

// P19.1: any number in every place of a system.
func TestAnyNumberInEveryPlace(t *testing.T) {
	all := ends()
	for n := -3; n <= 260; n++ {
		all = append(all, n)
	}
	for n, c := range []config{some(), full(), one(api.Task{C: 100, D: 150, T: 200, Secs: secs{{Res: 1, At: 10, Len: 20}}})} {
		before, valid := copied(c), 0
		for k, x := range places(c) {
			old := *x
			for _, *x = range all {
				if n == 1 && k%5 > 0 && *x > 5 && *x < 190 {
					continue
				}
				if check(t, c) {
					valid++
				}
				checkSame(t, c, before)
			}
			*x = old
		}
		if valid < 100 {
			t.Errorf("only %d of them are valid", valid)
		}
	}
}

// P19.1: any two numbers in two places of a system.
func TestAnyNumbersInTwoPlaces(t *testing.T) {
	r := rand.New(rand.NewSource(11))
	valid := 0
	for n := range 60000 {
		c := []config{some(), full(), bare(2, api.Port{From: 0, To: 1, Cap: 1})}[n%3]
		all := places(c)
		for range 2 {
			x := all[r.Intn(len(all))]
			*x = []int{*x - 1, *x + 1, r.Intn(260) - 2, around()[r.Intn(len(around()))]}[r.Intn(4)]
		}
		if check(t, c) {
			valid++
		}
	}
	if valid < 3000 {
		t.Errorf("only %d of them are valid", valid)
	}
}

// lessOrMore returns lists that differ from l in one item: one is missing, or is there twice; and the list with no items.
func lessOrMore[E any](l []E) [][]E {
	out := [][]E{nil}
	for i := range l {
		out = append(out, slices.Delete(slices.Clone(l), i, i+1), slices.Insert(slices.Clone(l), i, l[i]))
	}
	return out
}

// variants returns systems that differ from a system in one list, and itself; some of these have the same numbers, in other lists.
func variants(c config) []config {
	out := []config{c}
	for _, l := range lessOrMore(c.Parts) {
		out = append(out, config{Parts: l, Ports: c.Ports})
	}
	for _, l := range lessOrMore(c.Ports) {
		out = append(out, config{Parts: c.Parts, Ports: l})
	}
	for i := range c.Parts {
		for _, l := range lessOrMore(c.Parts[i].Tasks) {
			d := copied(c)
			d.Parts[i].Tasks = l
			out = append(out, d)
		}
		for j := range c.Parts[i].Tasks {
			for _, l := range lessOrMore(c.Parts[i].Tasks[j].Secs) {
				d := copied(c)
				d.Parts[i].Tasks[j].Secs = l
				out = append(out, d)
			}
		}
	}
	return append(out, exchanged(c)...)
}

// exchanged returns systems in which two things have changed their places, or something has moved to the next list.
func exchanged(c config) []config {
	var out []config
	for i := 1; i < len(c.Parts); i++ {
		d, e, f := copied(c), copied(c), copied(c)
		d.Parts[i-1], d.Parts[i] = d.Parts[i], d.Parts[i-1]
		e.Parts[i-1].Tasks, e.Parts[i].Tasks = e.Parts[i].Tasks, e.Parts[i-1].Tasks
		f.Parts[i].Tasks = append(f.Parts[i-1].Tasks, f.Parts[i].Tasks...)
		f.Parts[i-1].Tasks = nil
		out = append(out, d, e, f)
	}
	for i := 1; i < len(c.Ports); i++ {
		d := copied(c)
		d.Ports[i-1], d.Ports[i] = d.Ports[i], d.Ports[i-1]
		out = append(out, d)
	}
	for i, p := range c.Parts {
		for j := 1; j < len(p.Tasks); j++ {
			d := copied(c)
			l := d.Parts[i].Tasks
			l[j].Secs, l[j-1].Secs = append(l[j-1].Secs, l[j].Secs...), nil
			out = append(out, d)
		}
	}
	return out
}

// P19.1: systems that differ in the number of their partitions, tasks, sections or ports, each with each.
func TestSameOfVariants(t *testing.T) {
	for _, c := range []config{{}, some(), full(), one(), bare(3, api.Port{From: 0, To: 2, Cap: 2}), one(api.Task{C: 3, D: 3, T: 3, Secs: secs{{}, {}}}, api.Task{}, api.Task{})} {
		all := variants(c)
		var numbers [][]int
		for _, a := range all {
			check(t, a)
			checkSame(t, a, copied(a))
			numbers = append(numbers, flat(a))
		}
		for i, a := range all {
			for j, b := range all {
				if want := slices.Equal(numbers[i], numbers[j]); image.Same(a, b) != want {
					t.Fatalf("Same of %+v and %+v: not %v", a, b, want)
				}
			}
		}
	}
}

// P19.1: systems that differ in one number, also where they are not valid.
func TestSameOfSystemsWithOneNumberChanged(t *testing.T) {
	for _, c := range []config{some(), full(), {Parts: make(parts, 6), Ports: make(ports, 5)}, one(make(tasks, 9)...)} {
		d := copied(c)
		if !image.Same(c, d) {
			t.Fatalf("Same of %+v and a copy", c)
		}
		for _, x := range places(d) {
			old := *x
			for _, *x = range around() {
				if want := *x == old; image.Same(c, d) != want || image.Same(d, c) != want {
					t.Fatalf("Same of %+v and %+v: not %v", c, d, want)
				}
			}
			*x = old
		}
	}
}

// The example of the chapter, and others.
func TestExamples(t *testing.T) {
	for _, r := range []struct {
		c    config
		want string
	}{
		{config{}, "TK1\x00\x00"},
		{faced(200, 199), "TK1\x01\xc8\xc7\x00\x00"},
		{bare(2, api.Port{From: 1, To: 0, Cap: 3}), "TK1\x02\x02\x01\x00\x02\x01\x00\x01\x01\x00\x03"},
		{one(api.Task{C: 5, D: 6, T: 7, Secs: secs{{Res: 0, At: 1, Len: 3}, {Res: 1, At: 2, Len: 1}}}, api.Task{C: 1, D: 1, T: 200}), "TK1\x01\x02\x01\x02\x05\x06\x07\x02\x00\x01\x03\x01\x02\x01\x01\x01\xc8\x00\x00"},
	} {
		judged(t, r.c, true)
		if b, err := image.Encode(r.c); string(b) != r.want || err != api.OK {
			t.Errorf("Encode of %+v: %x, %d, want %x", r.c, b, err, r.want)
		}
		if c, at, err := image.Decode([]byte(r.want)); !image.Same(c, r.c) || at != 0 || err != api.OK {
			t.Errorf("Decode of %x: %+v, %d, %d", r.want, c, at, err)
		}
	}
}
