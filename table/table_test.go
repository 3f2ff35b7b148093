package table_test

import (
	"math"
	"math/rand"
	"slices"
	"strconv"
	"strings"
	"testing"

	"remontoir/api"
	"remontoir/supply"
	"remontoir/synth"
	"remontoir/table"
)

// of returns a table with a frame, and windows of the numbers taken in threes: Part, From, Len.
func of(frame int, n ...int) table.Table {
	t := table.Table{Frame: frame}
	for i := 0; i+2 < len(n); i += 3 {
		t.Windows = append(t.Windows, api.Window{Part: n[i], From: n[i+1], Len: n[i+2]})
	}
	return t
}

// faces returns interfaces, of the numbers taken in twos: P, B.
func faces(n ...int) []api.Face {
	var l []api.Face
	for i := 0; i+1 < len(n); i += 2 {
		l = append(l, api.Face{P: n[i], B: n[i+1]})
	}
	return l
}

// digits returns the ticks that a text tells: a digit for each part, and a dot for none.
func digits(text string) []int {
	var out []int
	for _, c := range text {
		if c == '.' {
			out = append(out, -1)
		} else {
			out = append(out, int(c-'0'))
		}
	}
	return out
}

// text is the other way round.
func text(ticks []int) string {
	var out strings.Builder
	for _, n := range ticks {
		if n == -1 {
			out.WriteString(".")
		} else {
			out.WriteString(strconv.Itoa(n))
		}
	}
	return out.String()
}

// equal reports whether two tables are equal; no windows are the same as an empty list.
func equal(a, b table.Table) bool {
	return a.Frame == b.Frame && slices.Equal(a.Windows, b.Windows)
}

// isTable is the document's word.
func isTable(x table.Table) bool {
	if x.Frame < 1 || x.Frame > 240 {
		return false
	}
	for i, w := range x.Windows {
		if w.Part < 0 || w.Part > 3 || w.From < 0 || w.From > 240 || w.Len < 1 || w.Len > 240 || w.From+w.Len > x.Frame {
			return false
		}
		if i == 0 {
			continue
		}
		previous := x.Windows[i-1]
		end := previous.From + previous.Len
		if w.From < end || w.From == end && w.Part == previous.Part {
			return false
		}
	}
	return true
}

// modelTicks seeks for each tick the window that has it.
func modelTicks(x table.Table) []int {
	var out []int
	for tick := range x.Frame {
		i := slices.IndexFunc(x.Windows, func(w api.Window) bool { return tick >= w.From && tick-w.From < w.Len })
		if i < 0 {
			out = append(out, -1)
		} else {
			out = append(out, x.Windows[i].Part)
		}
	}
	return out
}

// modelOf is the document's word: it seeks where each window begins, and where it ends.
func modelOf(ticks []int) (table.Table, api.Errno) {
	if len(ticks) == 0 || len(ticks) > 240 || slices.ContainsFunc(ticks, func(n int) bool { return n < -1 || n > 3 }) {
		return table.Table{}, api.ErrArg
	}
	x := table.Table{Frame: len(ticks)}
	for i, n := range ticks {
		if n == -1 || i > 0 && ticks[i-1] == n {
			continue
		}
		end := i
		for end < len(ticks) && ticks[end] == n {
			end++
		}
		x.Windows = append(x.Windows, api.Window{Part: n, From: i, Len: end - i})
	}
	return x, api.OK
}

// modelLeast counts for each beginning in the first frame.
func modelLeast(ticks []int, part, n int) int {
	if part < 0 {
		return 0
	}
	best := math.MaxInt
	for from := range ticks {
		sum := 0
		for t := from; t < from+n; t++ {
			if ticks[t%len(ticks)] == part {
				sum++
			}
		}
		best = min(best, sum)
	}
	return best
}

// checkWrong checks all calls for what is no table; those of At and Least for any other arguments too.
func checkWrong(t *testing.T, x table.Table) {
	t.Helper()
	if table.Right(x) {
		t.Errorf("Right(%v)", x)
	}
	if ticks, err := table.Ticks(x); len(ticks) > 0 || err != api.ErrArg {
		t.Errorf("Ticks(%v): %v, %d", x, ticks, err)
	}
	for _, tick := range []int{math.MinInt, -1, 0, 1, 239, 240, math.MaxInt} {
		if part := table.At(x, tick); part != -1 {
			t.Errorf("At(%v, %d): %d", x, tick, part)
		}
	}
	for _, part := range []int{math.MinInt, -1, 0, 3, 4, math.MaxInt} {
		for _, n := range []int{math.MinInt, -1, 0, 1, 2000, 2001, math.MaxInt} {
			if least, err := table.Least(x, part, n); least != 0 || err != api.ErrArg {
				t.Errorf("Least(%v, %d, %d): %d, %d", x, part, n, least, err)
			}
		}
	}
}

// checkTable checks all calls for a table with these ticks: its ticks in several frames, and the least ticks of each part for these n.
func checkTable(t *testing.T, x table.Table, ticks []int, ns ...int) {
	t.Helper()
	if !table.Right(x) {
		t.Errorf("not Right(%v)", x)
	}
	if got, err := table.Ticks(x); !slices.Equal(got, ticks) || err != api.OK {
		t.Errorf("Ticks(%v): %v, %d, want %v", x, got, err, ticks)
	}
	for i, want := range ticks {
		for _, frames := range []int{0, 1, 2, 1000, (math.MaxInt - x.Frame) / x.Frame} {
			if got := table.At(x, frames*x.Frame+i); got != want {
				t.Errorf("At(%v, %d * %d + %d): %d, want %d", x, frames, x.Frame, i, got, want)
			}
		}
	}
	for part := -2; part <= 5; part++ {
		for _, n := range ns {
			want := modelLeast(ticks, part, n)
			if got, err := table.Least(x, part, n); got != want || err != api.OK {
				t.Errorf("Least(%v, %d, %d): %d, %d, want %d", x, part, n, got, err, want)
			}
		}
	}
}

// checkOf checks one call of Of, and for a table all other calls.
func checkOf(t *testing.T, ticks []int, ns ...int) {
	t.Helper()
	want, wantErr := modelOf(ticks)
	got, err := table.Of(ticks)
	if !equal(got, want) || err != wantErr {
		t.Errorf("Of(%v): %v, %d, want %v, %d", ticks, got, err, want, wantErr)
	}
	if wantErr == api.OK {
		checkTable(t, got, ticks, ns...)
	}
}

// all returns all lists of n of the numbers.
func all(from []int, n int) [][]int {
	if n == 0 {
		return [][]int{nil}
	}
	var out [][]int
	for _, rest := range all(from, n-1) {
		for _, k := range from {
			out = append(out, append(slices.Clip(rest), k))
		}
	}
	return out
}

// mixed returns ticks by chance, in small frames and great ones: windows that are short or long, next to each other or not.
func mixed(seed int64, n int) [][]int {
	r := rand.New(rand.NewSource(seed))
	var out [][]int
	for range n {
		frame := []int{1 + r.Intn(12), 1 + r.Intn(240), 239, 240, 240}[r.Intn(5)]
		longest := 1 + r.Intn(frame)
		lowest := r.Intn(2) - 1
		var ticks []int
		for len(ticks) < frame {
			ticks = append(ticks, slices.Repeat([]int{lowest + r.Intn(4-lowest)}, 1+r.Intn(longest))...)
		}
		out = append(out, ticks[:frame])
	}
	return out
}

// layable returns lists of interfaces of which none is late, by chance, in small frames and great ones.
func layable(seed int64, n int) [][]api.Face {
	r := rand.New(rand.NewSource(seed))
	var out [][]api.Face
	for len(out) < n {
		frame := []int{240, 240, 180, 210, 200, 120, 60, 12, 1 + r.Intn(240)}[r.Intn(9)]
		var l []api.Face
		count := 1 + r.Intn(api.MaxParts)
		for range count {
			p := 1 + r.Intn(min(frame, 200))
			for frame%p != 0 {
				p--
			}
			l = append(l, api.Face{P: p, B: min(p, 1+r.Intn(1+2*p/count))})
		}
		if _, err := synth.Lay(l); err == api.OK {
			out = append(out, l)
		}
	}
	return out
}

// ends are the ends of int, and numbers whose low halves are small.
func ends() []int {
	return []int{math.MinInt, math.MinInt + 1, -1 << 32, -1<<32 + 1, -api.MaxNum, 1 << 32, 1<<32 + 1, 1<<32 + 2, api.MaxNum, api.MaxNum + 1, math.MaxInt - 1, math.MaxInt}
}

// wrong returns what is no table.
func wrong() []table.Table {
	l := []table.Table{{}, of(0, 0, 0, 0), of(0, 0, 0, 1), of(-1), of(-1, 0, 0, 1), of(-240, 0, 0, 1), of(241), of(241, 0, 0, 1), of(241, 0, 0, 241), of(480, 0, 0, 1), of(1000),
		of(4, -1, 0, 1), of(4, -2, 0, 1), of(4, 4, 0, 1), of(4, 5, 0, 1), of(4, 4, 0, 4), of(4, 0, 0, 1, 4, 2, 1), of(4, 0, 0, 1, -1, 2, 1), of(4, -1, 0, 1, 0, 2, 1),
		of(4, 0, -1, 1), of(4, 0, -1, 2), of(4, 0, -1, 5), of(4, 0, -4, 4), of(4, 0, -240, 240), of(4, 0, 0, 1, 1, -1, 5),
		of(4, 0, 0, 0), of(4, 0, 3, 0), of(4, 0, 4, 0), of(4, 0, 0, -1), of(4, 0, 4, -1), of(4, 0, 2, -2), of(4, 0, 5, -5), of(4, 0, 5, -1), of(4, 0, 0, 1, 1, 2, 0), of(4, 0, 0, 0, 1, 0, 1), of(4, 0, 2, 0, 1, 2, 1),
		of(4, 0, 0, 5), of(4, 0, 1, 4), of(4, 0, 3, 2), of(4, 0, 4, 1), of(4, 0, 5, 1), of(1, 0, 0, 2), of(1, 0, 1, 1), of(240, 3, 0, 241), of(240, 3, 239, 2), of(240, 3, 240, 1), of(4, 0, 0, 1, 1, 3, 2),
		of(4, 0, 0, 2, 1, 1, 2), of(4, 0, 0, 4, 1, 0, 4), of(4, 0, 0, 4, 1, 3, 1), of(4, 0, 0, 2, 0, 1, 2), of(4, 0, 0, 1, 0, 0, 1), of(4, 0, 0, 1, 1, 0, 1), of(4, 0, 0, 3, 1, 1, 1), of(4, 0, 1, 2, 1, 0, 2),
		of(4, 0, 0, 1, 0, 1, 1), of(4, 3, 0, 2, 3, 2, 2), of(4, 1, 1, 1, 1, 2, 1), of(4, 0, 0, 1, 1, 1, 1, 1, 2, 1), of(4, 0, 0, 1, 0, 1, 1, 1, 2, 1),
		of(4, 1, 2, 1, 0, 0, 1), of(4, 0, 2, 2, 1, 0, 2), of(4, 0, 2, 2, 0, 0, 2), of(4, 0, 3, 1, 1, 1, 1), of(4, 0, 0, 1, 1, 3, 1, 2, 1, 1), of(240, 0, 239, 1, 1, 0, 1)}
	for _, n := range ends() {
		l = append(l, of(n), of(n, 0, 0, 1), of(n, 0, 0, n), of(4, n, 0, 1), of(4, 0, n, 1), of(4, 0, 0, n), of(4, 0, n, 0), of(4, 0, 1, n), of(4, 0, 4, n), of(4, 0, n, n), of(4, n, n, n),
			of(4, 0, 0, 1, 1, n, 1), of(4, 0, 0, 1, 1, 1, n), of(4, 0, 0, 1, n, 1, 1), of(4, 0, n, 1, 1, 0, 1), of(4, 0, 0, n, 1, 0, 1))
		for _, m := range ends() {
			// From plus Len is no int for some of these, and wraps round to a small one.
			l = append(l, of(4, 0, n, m), of(n, 0, m, 1), of(4, 0, 0, 1, 1, n, m), of(4, 0, n, m, 1, 2, 1), of(4, 0, n, math.MinInt-n), of(4, 0, n, math.MinInt-n+2))
		}
	}
	return l
}

// The examples of the chapter and of the whole.
func TestExample(t *testing.T) {
	x, err := table.Of([]int{0, 0, -1, 1})
	if !equal(x, of(4, 0, 0, 2, 1, 3, 1)) || err != api.OK {
		t.Errorf("%v, %d", x, err)
	}
	x, err = table.Make(faces(2, 1, 4, 2))
	if !equal(x, of(4, 0, 0, 1, 1, 1, 1, 0, 2, 1, 1, 3, 1)) || err != api.OK {
		t.Errorf("%v, %d", x, err)
	}
}

// P13.1: tables at the edges of the frame, of the numbers of parts, of From, and of Len; windows that touch, and with ticks between them.
func TestRight(t *testing.T) {
	rows := []struct {
		x     table.Table
		ticks string
	}{
		{of(1), "."}, {of(1, 0, 0, 1), "0"}, {of(1, 3, 0, 1), "3"}, {of(2), ".."}, {of(4, 2, 3, 1), "...2"}, {of(4, 2, 0, 4), "2222"}, {of(4, 0, 1, 3), ".000"}, {of(4, 0, 1, 2), ".00."},
		{of(4, 0, 0, 1, 1, 1, 1), "01.."}, {of(4, 1, 0, 1, 0, 1, 1), "10.."}, {of(4, 0, 0, 2, 1, 2, 2), "0011"}, {of(4, 0, 0, 1, 0, 2, 1), "0.0."}, {of(4, 0, 0, 1, 0, 3, 1), "0..0"}, {of(4, 0, 0, 1, 1, 3, 1), "0..1"},
		{of(4, 0, 0, 1, 1, 1, 1, 2, 2, 1, 3, 3, 1), "0123"}, {of(4, 3, 0, 1, 2, 1, 1, 1, 2, 1, 0, 3, 1), "3210"}, {of(4, 0, 0, 1, 1, 1, 1, 0, 2, 1, 1, 3, 1), "0101"}, {of(5, 0, 0, 1, 1, 1, 2, 0, 3, 1), "0110."},
		{of(240), strings.Repeat(".", 240)}, {of(240, 3, 0, 240), strings.Repeat("3", 240)}, {of(240, 0, 239, 1), strings.Repeat(".", 239) + "0"}, {of(240, 0, 0, 239, 1, 239, 1), strings.Repeat("0", 239) + "1"}, {of(239, 1, 238, 1), strings.Repeat(".", 238) + "1"},
	}
	for _, r := range rows {
		checkTable(t, r.x, digits(r.ticks), 0, 1, 2, 3, 4, 5, 8, 9, 239, 240, 241, 1999, 2000)
	}
}

// P13.1, P13.2: what is no table.
func TestWhatIsNoTable(t *testing.T) {
	for _, x := range wrong() {
		if isTable(x) {
			t.Fatalf("%v is a table", x)
		}
		checkWrong(t, x)
	}
}

// P13.1: one number of a table changed, to any from below its least one to above its greatest one, and to the ends of int; in the first window, in one between others, and in the last one.
func TestOneNumberChanged(t *testing.T) {
	numbers := ends()
	for n := -6; n <= 245; n++ {
		numbers = append(numbers, n)
	}
	count := map[bool]int{}
	for _, whole := range []table.Table{of(1, 0, 0, 1), of(5, 1, 1, 2), of(6, 0, 0, 2, 1, 2, 2, 0, 4, 2), of(9, 2, 1, 2, 0, 4, 2, 2, 7, 1), of(240, 3, 0, 80, 1, 80, 80, 2, 160, 80), of(240, 0, 10, 20, 0, 40, 20, 0, 70, 20)} {
		for i := range whole.Windows {
			for field := range 4 {
				for _, n := range numbers {
					x := table.Table{Frame: whole.Frame, Windows: slices.Clone(whole.Windows)}
					w := &x.Windows[i]
					*[]*int{&x.Frame, &w.Part, &w.From, &w.Len}[field] = n
					count[isTable(x)]++
					if table.Right(x) != isTable(x) {
						t.Errorf("Right(%v): %v", x, table.Right(x))
					}
				}
			}
		}
	}
	if count[true] < 500 || count[false] < 500 {
		t.Errorf("too few cases of one kind: %v", count)
	}
}

// P13.1: all tables with few windows of small numbers, in small frames: valid or not.
func TestRightAsDescribed(t *testing.T) {
	count := map[bool]int{}
	check := func(x table.Table) {
		count[isTable(x)]++
		if table.Right(x) != isTable(x) {
			t.Errorf("Right(%v): %v", x, table.Right(x))
		}
	}
	windows := func(parts, froms, lens []int) []api.Window {
		var out []api.Window
		for _, p := range parts {
			for _, f := range froms {
				for _, n := range lens {
					out = append(out, api.Window{Part: p, From: f, Len: n})
				}
			}
		}
		return out
	}
	for frame := -1; frame <= 5; frame++ {
		check(table.Table{Frame: frame})
		wide := windows([]int{-1, 0, 2, 3, 4}, []int{-1, 0, 1, 2, 3, 4, 5}, []int{-1, 0, 1, 2, 3, 4, 5, 6})
		for _, a := range wide {
			check(table.Table{Frame: frame, Windows: []api.Window{a}})
			for _, b := range wide {
				check(table.Table{Frame: frame, Windows: []api.Window{a, b}})
			}
		}
		narrow := windows([]int{0, 1}, []int{0, 1, 2, 3, 4}, []int{0, 1, 2, 3})
		for _, a := range narrow {
			for _, b := range narrow {
				for _, c := range narrow {
					check(table.Table{Frame: frame, Windows: []api.Window{a, b, c}})
				}
			}
		}
	}
	if count[true] < 500 || count[false] < 500 {
		t.Errorf("too few cases of one kind: %v", count)
	}
}

// P13.1: ticks that are too many, too few, or not a part; at any place.
func TestTicksThatAreNotValid(t *testing.T) {
	for _, ticks := range [][]int{nil, {}, make([]int, 241), make([]int, 242), make([]int, 480), make([]int, 1<<16), slices.Repeat([]int{-1}, 241), slices.Repeat([]int{3}, 241), slices.Repeat([]int{-2}, 241), slices.Repeat([]int{4}, 1<<20)} {
		checkOf(t, ticks)
		if x, err := table.Of(ticks); !equal(x, table.Table{}) || err != api.ErrArg {
			t.Errorf("Of %d ticks: %v, %d", len(ticks), x, err)
		}
	}
	for _, bad := range append(ends(), -240, -3, -2, 4, 5, 240) {
		for _, ticks := range [][]int{{0}, {-1}, {0, 1, 2}, {-1, 3, -1}, slices.Repeat([]int{1, 2}, 120), slices.Repeat([]int{-1}, 240)} {
			for place := range ticks {
				l := slices.Clone(ticks)
				l[place] = bad
				if x, err := table.Of(l); !equal(x, table.Table{}) || err != api.ErrArg {
					t.Errorf("Of(%v): %v, %d", l, x, err)
				}
			}
		}
	}
}

// P13.1, P13.2: all ticks of nobody, all of one part, each of another part than the one before, in frames from 1 to MaxFrame.
func TestPlainTicks(t *testing.T) {
	for frame := 1; frame <= api.MaxFrame; frame++ {
		ns := []int{1}
		if frame < 12 || frame > 238 || frame%60 == 0 {
			ns = []int{0, 1, frame - 1, frame, frame + 1}
		}
		for _, pattern := range [][]int{{-1}, {0}, {1}, {2}, {3}, {0, 1}, {3, -1}, {-1, 3}, {0, 1, 2, 3}, {2, 0, 3}, {-1, -1, 1}, {0, 0, 2, 2}} {
			ticks := slices.Repeat(pattern, frame)[:frame]
			checkOf(t, ticks, ns...)
		}
	}
	x, err := table.Of(slices.Repeat([]int{0, 1}, 120))
	if len(x.Windows) != 240 || x.Frame != 240 || err != api.OK || x.Windows[239] != (api.Window{Part: 1, From: 239, Len: 1}) {
		t.Errorf("%v, %d", x, err)
	}
}

// P13.1, P13.2, P13.3: all ticks in small frames, valid or not, and ticks by chance.
func TestAsDescribed(t *testing.T) {
	for n := range 5 {
		for _, ticks := range all([]int{-3, -2, -1, 0, 1, 3, 4, 5}, n) {
			checkOf(t, ticks, 0, 1, 2, 3, 4, 5, 6, 7, 8, 9)
		}
	}
	for n := range 7 {
		for _, ticks := range all([]int{-1, 0, 1, 2}, n) {
			checkOf(t, ticks, 0, 1, 2, 3, 4, 5, 6, 7, 13)
		}
	}
	for _, ticks := range mixed(131, 100) {
		n := len(ticks)
		checkOf(t, ticks, 0, 1, n/3, n/2, n-1, n, n+1, 3*n/2, 2*n, 1999, 2000)
	}
}

// P13.3: the ticks of the table of ticks are these, and the table of a table's ticks is this one.
func TestThereAndBack(t *testing.T) {
	var many [][]int
	for n := 1; n <= 6; n++ {
		many = append(many, all([]int{-1, 0, 1, 2, 3}, n)...)
	}
	for _, ticks := range append(many, mixed(132, 3000)...) {
		x, err := table.Of(ticks)
		back, backErr := table.Ticks(x)
		if err != api.OK || backErr != api.OK || !slices.Equal(back, ticks) {
			t.Errorf("%v: Of: %v, %d, and its Ticks: %v, %d", ticks, x, err, back, backErr)
		}
	}
	tried := 0
	for _, x := range append(rightOnes(133, 3000), smallOnes()...) {
		ticks, err := table.Ticks(x)
		back, backErr := table.Of(ticks)
		if err != api.OK || backErr != api.OK || !equal(back, x) {
			t.Errorf("%v: Ticks: %v, %d, and their table: %v, %d", x, ticks, err, back, backErr)
		}
		tried++
	}
	if tried < 4000 {
		t.Errorf("only %d tables", tried)
	}
}

// smallOnes returns all tables with up to three windows in frames with up to 5 ticks.
func smallOnes() []table.Table {
	var out []table.Table
	for frame := 1; frame <= 5; frame++ {
		var windows []int
		for _, w := range all([]int{0, 1, 2, 3, 4, 5}, 3) {
			if w[0] < 3 && w[1] < frame && w[2] > 0 && w[1]+w[2] <= frame {
				windows = append(windows, len(out))
				out = append(out, of(frame, w...))
			}
		}
		for _, i := range windows {
			for _, j := range windows {
				pair := table.Table{Frame: frame, Windows: append(slices.Clone(out[i].Windows), out[j].Windows...)}
				if !isTable(pair) {
					continue
				}
				out = append(out, pair)
				for _, k := range windows {
					if three := (table.Table{Frame: frame, Windows: append(slices.Clone(pair.Windows), out[k].Windows...)}); isTable(three) {
						out = append(out, three)
					}
				}
			}
		}
	}
	return out
}

// rightOnes returns tables by chance, which are made window by window.
func rightOnes(seed int64, n int) []table.Table {
	r := rand.New(rand.NewSource(seed))
	var out []table.Table
	for range n {
		x := table.Table{Frame: []int{1 + r.Intn(12), 1 + r.Intn(240), 240}[r.Intn(3)]}
		longest := 1 + r.Intn(x.Frame)
		for at := r.Intn(2) * r.Intn(longest+1); at < x.Frame; at += r.Intn(2) * r.Intn(longest+1) {
			w := api.Window{Part: r.Intn(4), From: at, Len: 1 + r.Intn(min(longest, x.Frame-at))}
			if last := len(x.Windows) - 1; last >= 0 && x.Windows[last].Part == w.Part && x.Windows[last].From+x.Windows[last].Len == at {
				w.Part = (w.Part + 1 + r.Intn(3)) % 4
			}
			x.Windows = append(x.Windows, w)
			at += w.Len
		}
		out = append(out, x)
	}
	return out
}

// P13.2: ticks below 0, in the first frame, in later ones, and at the ends of int.
func TestAt(t *testing.T) {
	x := of(6, 0, 0, 2, 1, 3, 2, 2, 5, 1)
	rows := []struct{ tick, part int }{
		{math.MinInt, -1}, {math.MinInt + 1, -1}, {-api.MaxNum, -1}, {-1 << 32, -1}, {-600, -1}, {-7, -1}, {-6, -1}, {-5, -1}, {-2, -1}, {-1, -1},
		{0, 0}, {1, 0}, {2, -1}, {3, 1}, {4, 1}, {5, 2}, {6, 0}, {7, 0}, {8, -1}, {9, 1}, {10, 1}, {11, 2}, {12, 0}, {600, 0}, {602, -1}, {604, 1}, {605, 2}, {2000, -1}, {2001, 1}, {3000, 0},
		{1 << 32, 1}, {1<<32 + 1, 2}, {api.MaxNum - 1, -1}, {api.MaxNum, 1}, {api.MaxNum + 1, 1}, {math.MaxInt - 2, 2}, {math.MaxInt - 1, 0}, {math.MaxInt, 0},
	}
	for _, r := range rows {
		if r.tick >= 0 && modelTicks(x)[r.tick%6] != r.part {
			t.Fatalf("%d is %d modulo the frame", r.tick, r.tick%6)
		}
		if got := table.At(x, r.tick); got != r.part {
			t.Errorf("At(%v, %d): %d, want %d", x, r.tick, got, r.part)
		}
	}
	for _, tick := range []int{math.MinInt, -1, 0, 1, 1 << 32, math.MaxInt} {
		if got := table.At(of(1), tick); got != -1 {
			t.Errorf("At %d of no window: %d", tick, got)
		}
		want := 3
		if tick < 0 {
			want = -1
		}
		if got := table.At(of(1, 3, 0, 1), tick); got != want {
			t.Errorf("At %d of all ticks: %d", tick, got)
		}
		if got := table.At(of(240, 3, 0, 240), tick); got != want {
			t.Errorf("At %d of all 240 ticks: %d", tick, got)
		}
	}
}

// P13.2: n below the frame, equal to it, and above it; parts with one window, with several, with none; and one whose ticks lie around the frame's end.
func TestLeast(t *testing.T) {
	x := of(6, 0, 0, 2, 1, 3, 2, 2, 5, 1)
	around := of(6, 0, 0, 1, 1, 2, 2, 0, 5, 1)
	long := of(240, 1, 0, 100, 0, 239, 1)
	rows := []struct {
		x             table.Table
		part, n, want int
	}{
		{x, 0, 0, 0}, {x, 0, 1, 0}, {x, 0, 4, 0}, {x, 0, 5, 1}, {x, 0, 6, 2}, {x, 0, 7, 2}, {x, 0, 10, 2}, {x, 0, 11, 3}, {x, 0, 12, 4}, {x, 0, 2000, 666}, {x, 0, 1998, 666}, {x, 0, 1997, 665},
		{x, 2, 0, 0}, {x, 2, 5, 0}, {x, 2, 6, 1}, {x, 2, 11, 1}, {x, 2, 12, 2}, {x, 2, 1999, 333}, {x, 3, 6, 0}, {x, 3, 2000, 0},
		{around, 0, 4, 0}, {around, 0, 5, 1}, {around, 0, 6, 2}, {around, 0, 10, 2}, {around, 1, 4, 0}, {around, 1, 5, 1}, {around, 1, 10, 2},
		{long, 0, 239, 0}, {long, 0, 240, 1}, {long, 0, 479, 1}, {long, 0, 480, 2}, {long, 0, 2000, 8}, {long, 1, 140, 0}, {long, 1, 141, 1}, {long, 1, 239, 99}, {long, 1, 240, 100}, {long, 1, 380, 100}, {long, 1, 381, 101}, {long, 1, 2000, 800},
		{of(1), 0, 2000, 0}, {of(1, 0, 0, 1), 0, 0, 0}, {of(1, 0, 0, 1), 0, 1, 1}, {of(1, 0, 0, 1), 0, 2000, 2000}, {of(1, 3, 0, 1), 3, 1999, 1999}, {of(240, 2, 0, 240), 2, 2000, 2000}, {of(2, 0, 1, 1), 0, 1, 0}, {of(2, 0, 1, 1), 0, 2, 1},
	}
	for _, r := range rows {
		if got, err := table.Least(r.x, r.part, r.n); got != r.want || err != api.OK {
			t.Errorf("Least(%v, %d, %d): %d, %d, want %d", r.x, r.part, r.n, got, err, r.want)
		}
	}
}

// P13.2: parts that have no window: below 0, also where ticks belong to none, and above MaxParts - 1.
func TestLeastOfPartsWithoutWindows(t *testing.T) {
	for _, x := range []table.Table{of(1), of(1, 0, 0, 1), of(6), of(6, 0, 0, 2, 1, 3, 2), of(6, 3, 0, 6), of(240), of(240, 0, 239, 1), of(240, 3, 0, 240)} {
		for _, part := range append(ends(), -5, -2, -1, 4, 5, 240) {
			for _, n := range []int{0, 1, 6, 240, 2000} {
				if got, err := table.Least(x, part, n); got != 0 || err != api.OK {
					t.Errorf("Least(%v, %d, %d): %d, %d", x, part, n, got, err)
				}
			}
		}
		for part := range 4 {
			// Nobody's ticks are those of no part, whichever has windows.
			want := modelLeast(modelTicks(x), part, 7)
			if got, err := table.Least(x, part, 7); got != want || err != api.OK {
				t.Errorf("Least(%v, %d, 7): %d, %d, want %d", x, part, got, err, want)
			}
		}
	}
}

// P13.2: an n below 0 and above 2000, for all kinds of parts.
func TestLeastOfAnN(t *testing.T) {
	for _, x := range []table.Table{of(1), of(1, 0, 0, 1), of(6, 0, 0, 2, 1, 3, 2), of(240, 3, 0, 240)} {
		for _, part := range []int{math.MinInt, -1, 0, 1, 3, 4, math.MaxInt} {
			for _, n := range append(ends(), -2000, -2, -1, 2001, 2002, 3000, 4000) {
				if got, err := table.Least(x, part, n); got != 0 || err != api.ErrArg {
					t.Errorf("Least(%v, %d, %d): %d, %d", x, part, n, got, err)
				}
			}
			for _, n := range []int{0, 1, 1999, 2000} {
				if _, err := table.Least(x, part, n); err != api.OK {
					t.Errorf("Least(%v, %d, %d): error %d", x, part, n, err)
				}
			}
		}
	}
}

// P13.2: interfaces that are not valid, too many, whose frame is too large, with one that is late; and others, also none.
func TestMake(t *testing.T) {
	rows := []struct {
		l    []api.Face
		want table.Table
		err  api.Errno
	}{
		{nil, of(1), api.OK}, {faces(1, 1), of(1, 0, 0, 1), api.OK}, {faces(2, 1), of(2, 0, 0, 1), api.OK}, {faces(200, 200), of(200, 0, 0, 200), api.OK}, {faces(200, 99, 200, 100), of(200, 0, 0, 99, 1, 99, 100), api.OK},
		{faces(4, 2, 2, 1), of(4, 1, 0, 1, 0, 1, 2, 1, 3, 1), api.OK}, {faces(2, 1, 3, 1), of(6, 0, 0, 1, 1, 1, 1, 0, 2, 1, 1, 3, 1, 0, 4, 1), api.OK}, {faces(4, 1, 4, 1, 4, 1, 4, 1), of(4, 0, 0, 1, 1, 1, 1, 2, 2, 1, 3, 3, 1), api.OK},
		{faces(4, 1, 4, 2), of(4, 0, 0, 1, 1, 1, 2), api.OK}, {faces(4, 1, 6, 1), of(12, 0, 0, 1, 1, 1, 1, 0, 4, 1, 1, 6, 1, 0, 8, 1), api.OK},
		{faces(0, 0), table.Table{}, api.ErrArg}, {faces(5, 0), table.Table{}, api.ErrArg}, {faces(5, 6), table.Table{}, api.ErrArg}, {faces(201, 1), table.Table{}, api.ErrArg}, {faces(5, -1), table.Table{}, api.ErrArg}, {faces(2, 1, -1, -1), table.Table{}, api.ErrArg},
		{faces(9, 1, 9, 1, 9, 1, 9, 1, 9, 1), table.Table{}, api.ErrArg}, {faces(math.MaxInt, 1), table.Table{}, api.ErrArg}, {faces(math.MinInt, math.MinInt), table.Table{}, api.ErrArg}, {faces(1, 1, 1, 1, 5, 6), table.Table{}, api.ErrArg}, {faces(200, 1, 199, 1, 0, 0), table.Table{}, api.ErrArg},
		{faces(200, 1, 199, 1), table.Table{}, api.ErrLarge}, {faces(121, 1, 2, 1), table.Table{}, api.ErrLarge}, {faces(1, 1, 1, 1, 121, 1, 2, 1), table.Table{}, api.ErrLarge},
		{faces(2, 2, 4, 1), table.Table{}, api.ErrDeny}, {faces(1, 1, 1, 1), table.Table{}, api.ErrDeny}, {faces(2, 2, 2, 1, 4, 1), table.Table{}, api.ErrDeny}, {faces(80, 42, 48, 23), table.Table{}, api.ErrDeny},
	}
	for _, r := range rows {
		if got, err := table.Make(r.l); !equal(got, r.want) || err != r.err {
			t.Errorf("Make(%v): %v, %d, want %v, %d", r.l, got, err, r.want, r.err)
		}
	}
	x, err := table.Make(faces(80, 40, 48, 24))
	if x.Frame != 240 || err != api.OK {
		t.Errorf("%v, %d", x, err)
	}
}

// smallFaces returns all lists of one and of two interfaces with a small P, and of three with a smaller one; and some that are not valid.
func smallFaces() [][]api.Face {
	var out [][]api.Face
	var one []api.Face
	for p := range 8 {
		for b := range p + 2 {
			one = append(one, api.Face{P: p, B: b})
		}
	}
	for _, a := range one {
		out = append(out, []api.Face{a})
		for _, b := range one {
			out = append(out, []api.Face{a, b})
			for _, c := range one {
				if a.P < 5 && b.P < 5 && c.P < 5 {
					out = append(out, []api.Face{a, b, c})
				}
			}
		}
	}
	return out
}

// P13.2: the table of the layout, or its error.
func TestMakeAsDescribed(t *testing.T) {
	count := map[api.Errno]int{}
	lists := append(smallFaces(), layable(134, 300)...)
	for p := 100; p <= 200; p += 3 {
		for q := 1; q <= 200; q += 7 {
			lists = append(lists, faces(p, 1, q, 1))
		}
	}
	for _, l := range lists {
		var want table.Table
		ticks, wantErr := synth.Lay(l)
		if wantErr == api.OK {
			want, _ = modelOf(ticks)
		}
		if got, err := table.Make(l); !equal(got, want) || err != wantErr {
			t.Errorf("Make(%v): %v, %d, want %v, %d", l, got, err, want, wantErr)
		}
		count[wantErr]++
	}
	for _, err := range []api.Errno{api.OK, api.ErrArg, api.ErrLarge, api.ErrDeny} {
		if count[err] < 100 {
			t.Errorf("too few cases of one kind: %v", count)
		}
	}
}

// checkSupply checks what each interface has in the table that is made: in any consecutive ticks not less than its bound, counted by Least, and by At over some frames.
func checkSupply(t *testing.T, l []api.Face, upTo int) bool {
	t.Helper()
	x, err := table.Make(l)
	if err != api.OK {
		return false
	}
	for i, f := range l {
		given := make([]bool, 3*x.Frame)
		for tick := range given {
			given[tick] = table.At(x, tick) == i
		}
		for n := range upTo + 1 {
			bound, _ := supply.Bound(f, n)
			least, err := table.Least(x, i, n)
			if least < bound || err != api.OK {
				t.Errorf("Make(%v): %v, Least(%d, %d): %d, %d, and the bound is %d", l, x, i, n, least, err, bound)
			}
			if n <= 2*x.Frame && supply.Least(given, n) != least {
				t.Errorf("Make(%v): %v, Least(%d, %d): %d, and in three frames %d", l, x, i, n, least, supply.Least(given, n))
			}
		}
	}
	return true
}

// P13.4: in tables that were made each part has in any consecutive ticks, also across frames, not less than the bound of its interface.
func TestSupply(t *testing.T) {
	tried := 0
	for _, l := range smallFaces() {
		if checkSupply(t, l, 40) {
			tried++
		}
	}
	for i, l := range layable(135, 120) {
		upTo := 500
		if i%10 == 0 {
			upTo = 2000
		}
		if checkSupply(t, l, upTo) {
			tried++
		}
	}
	if tried < 300 {
		t.Errorf("only %d tables", tried)
	}
}

// An answer is all that the calls return for a table, and for its ticks.
type answer struct {
	right             bool
	ticks             string
	err               api.Errno
	at, least         string
	of                string
	ofErr             api.Errno
	errors, madeError string
}

// told returns a table as text.
func told(x table.Table) string {
	out := strconv.Itoa(x.Frame)
	for _, w := range x.Windows {
		out += " " + strconv.Itoa(w.Part) + " " + strconv.Itoa(w.From) + " " + strconv.Itoa(w.Len)
	}
	return out
}

// calls returns what the calls return.
func calls(x table.Table, given []int, l []api.Face) answer {
	ticks, err := table.Ticks(x)
	of, ofErr := table.Of(given)
	made, madeErr := table.Make(l)
	a := answer{right: table.Right(x), ticks: text(ticks), err: err, of: told(of), ofErr: ofErr, madeError: told(made) + ": " + strconv.Itoa(int(madeErr))}
	for tick := -1; tick < 20; tick++ {
		a.at += strconv.Itoa(table.At(x, tick)) + " "
	}
	for part := -1; part < 4; part++ {
		for n := -1; n < 15; n += 3 {
			least, leastErr := table.Least(x, part, n)
			a.least += strconv.Itoa(least) + " "
			a.errors += strconv.Itoa(int(leastErr)) + " "
		}
	}
	return a
}

// A set has arguments for all the calls.
type set struct {
	x     table.Table
	ticks []int
	l     []api.Face
}

// some returns arguments, valid and not.
func some() []set {
	tables := append(wrong()[:100], rightOnes(136, 100)...)
	ticks := append(mixed(137, 40), nil, []int{0}, []int{-2}, []int{4}, []int{0, 1, 4}, make([]int, 241), slices.Repeat([]int{1, 0}, 120))
	lists := append(layable(138, 40), nil, faces(1, 1), faces(2, 1, 4, 2), faces(2, 2, 4, 1), faces(0, 0), faces(200, 1, 199, 1), faces(9, 1, 9, 1, 9, 1, 9, 1, 9, 1))
	var out []set
	for i, x := range tables {
		out = append(out, set{x, ticks[i%len(ticks)], lists[i%len(lists)]})
	}
	return out
}

// R3: no call changes what it is given or what lies behind it, and none looks there.
func TestArgumentsDoNotChange(t *testing.T) {
	for _, s := range some() {
		windows := append(slices.Clone(s.x.Windows), api.Window{Part: 1, From: 2, Len: 1}, api.Window{Part: -1, From: -1, Len: 0}, api.Window{Part: 3, From: 239, Len: 1})
		ticks := append(slices.Clone(s.ticks), 0, 4, -2, 1)
		l := append(slices.Clone(s.l), faces(2, 1, 0, 0, 7, 7)...)
		windowsBefore, ticksBefore, before := slices.Clone(windows), slices.Clone(ticks), slices.Clone(l)
		x := table.Table{Frame: s.x.Frame, Windows: windows[:len(s.x.Windows)]}
		if a, b := calls(x, ticks[:len(s.ticks)], l[:len(s.l)]), calls(s.x, s.ticks, s.l); a != b {
			t.Errorf("%v with others behind: %+v, want %+v", s, a, b)
		}
		if !slices.Equal(windows, windowsBefore) || !slices.Equal(ticks, ticksBefore) || !slices.Equal(l, before) {
			t.Errorf("a call changed its arguments: %v", s)
		}
	}
}

// R3, R4: no call keeps what it is given: after other calls, and after a change in the same memory, the results are those of new memory.
func TestNothingIsKept(t *testing.T) {
	many := some()
	windows, ticks, l := make([]api.Window, 240), make([]int, 256), make([]api.Face, 8)
	for i, s := range many {
		want := calls(s.x, s.ticks, s.l)
		other := many[(i+1)%len(many)]
		calls(other.x, other.ticks, other.l)
		x := table.Table{Frame: s.x.Frame, Windows: windows[:copy(windows, s.x.Windows)]}
		for range 2 {
			if got := calls(x, ticks[:copy(ticks, s.ticks)], l[:copy(l, s.l)]); got != want {
				t.Errorf("%v: %+v, want %+v", s, got, want)
			}
		}
		clear(windows)
		clear(ticks)
		clear(l)
		if got := calls(s.x, s.ticks, s.l); got != want {
			t.Errorf("%v: %+v, and before %+v", s, got, want)
		}
	}
}

// spoil changes all the memory of a table and of ticks, spare capacity included.
func spoil(x table.Table, ticks []int) {
	windows := x.Windows[:cap(x.Windows)]
	for i := range windows {
		windows[i] = api.Window{Part: 9, From: 9, Len: 9}
	}
	ticks = ticks[:cap(ticks)]
	for i := range ticks {
		ticks[i] = 9
	}
}

// R3: tables and ticks are new memory, spare capacity included: a change in them changes no argument, and no other result.
func TestResultsAreNewMemory(t *testing.T) {
	for _, s := range some() {
		x := table.Table{Frame: s.x.Frame, Windows: slices.Clone(s.x.Windows)}
		given, l := slices.Clone(s.ticks), slices.Clone(s.l)
		want := calls(s.x, s.ticks, s.l)
		keptOf, _ := table.Of(given)
		keptMade, _ := table.Make(l)
		keptTicks, _ := table.Ticks(x)
		toldOf, toldMade, toldTicks := told(keptOf), told(keptMade), text(keptTicks)
		for range 2 {
			a, _ := table.Of(given)
			b, _ := table.Make(l)
			ticks, _ := table.Ticks(x)
			spoil(a, ticks)
			spoil(b, nil)
		}
		if !equal(x, s.x) || !slices.Equal(given, s.ticks) || !slices.Equal(l, s.l) {
			t.Errorf("a change in the results changed the arguments %v", s)
		}
		if told(keptOf) != toldOf || told(keptMade) != toldMade || text(keptTicks) != toldTicks {
			t.Errorf("%v: a change in other results changed %v, %v, or %v", s, keptOf, keptMade, keptTicks)
		}
		if got := calls(x, given, l); got != want {
			t.Errorf("%v: %+v, and before a change in the results %+v", s, got, want)
		}
	}
}

// R3: a nil list and an empty one are the same.
func TestNoListAndAnEmptyOne(t *testing.T) {
	for _, frame := range []int{-1, 0, 1, 6, 240, 241} {
		want := calls(table.Table{Frame: frame}, nil, nil)
		windows := of(4, 0, 0, 1, 1, 1, 1).Windows
		for _, w := range [][]api.Window{{}, make([]api.Window, 0, 9), windows[:0], windows[2:]} {
			if got := calls(table.Table{Frame: frame, Windows: w}, []int{7}[:0], faces(0, 0)[:0]); got != want {
				t.Errorf("%d ticks: %+v, want %+v", frame, got, want)
			}
		}
	}
}

// R1: any structs, the ends of int, and long lists.
func TestEveryCallReturns(t *testing.T) {
	numbers := append(ends(), -1, 0, 1, 2, 4, 240, 241)
	for _, a := range numbers {
		for _, b := range numbers {
			for _, c := range numbers {
				for _, x := range []table.Table{of(4, a, b, c), of(a, 0, b, c), of(4, 0, 0, 1, a, b, c), of(4, a, b, c, 1, 2, 1)} {
					if table.Right(x) != isTable(x) {
						t.Errorf("Right(%v): %v", x, table.Right(x))
					}
					calls(x, []int{a, b, c}, faces(a, b, c, a))
					table.At(x, a)
					table.Least(x, b, c)
				}
			}
		}
	}
	checkWrong(t, table.Table{Frame: 240, Windows: make([]api.Window, 1<<20)})
	checkWrong(t, table.Table{Frame: 240, Windows: slices.Repeat(of(0, 0, 0, 1, 1, 1, 1).Windows, 1<<16)})
	long := of(240)
	for from := range 1 << 16 {
		long.Windows = append(long.Windows, api.Window{Part: from % 2, From: from, Len: 1})
	}
	checkWrong(t, long)
	long.Windows = long.Windows[:240]
	checkTable(t, long, slices.Repeat([]int{0, 1}, 120), 2000)
	if x, err := table.Make(make([]api.Face, 1<<20)); !equal(x, table.Table{}) || err != api.ErrArg {
		t.Errorf("Make of many: %v, %d", x, err)
	}
}
