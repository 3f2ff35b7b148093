package supply_test

import (
	"math"
	"math/rand"
	"slices"
	"strings"
	"testing"

	"remontoir/api"
	"remontoir/supply"
)

const most = api.MaxNum

// ticks returns the ticks of a text: those that are provided are written 1, and the others 0; blanks are for reading alone.
func ticks(text string) []bool {
	out := []bool{}
	for _, c := range strings.ReplaceAll(text, " ", "") {
		out = append(out, c == '1')
	}
	return out
}

// text is the other way round.
func text(given []bool) string {
	var b strings.Builder
	for _, tick := range given {
		if tick {
			b.WriteByte('1')
		} else {
			b.WriteByte('0')
		}
	}
	return b.String()
}

// texts returns all texts of up to n ticks.
func texts(n int) []string {
	out := []string{""}
	for k := 0; len(out[k]) < n; k++ {
		out = append(out, out[k]+"0", out[k]+"1")
	}
	return out
}

// faces returns all valid interfaces with a P up to this one.
func faces(greatest int) []api.Face {
	var out []api.Face
	for p := 1; p <= greatest; p++ {
		for b := 1; b <= p; b++ {
			out = append(out, api.Face{P: p, B: b})
		}
	}
	return out
}

// wrong returns interfaces that are not valid.
func wrong() []api.Face {
	edges := []int{math.MinInt, math.MinInt + 1, -201, -5, -1, 0, 1, 5, 200, 201, 202, most, math.MaxInt - 1, math.MaxInt}
	var out []api.Face
	for _, p := range edges {
		for _, b := range edges {
			if b < 1 || p < b || p > 200 {
				out = append(out, api.Face{P: p, B: b})
			}
		}
	}
	return append(out, api.Face{P: 5, B: 6}, api.Face{P: 1, B: 2}, api.Face{P: 199, B: 200}, api.Face{P: 4, B: -4}, api.Face{P: -4, B: 4})
}

// lengths returns numbers of ticks for a valid interface: the edges of its bound, and the ends of all numbers.
func lengths(f api.Face) []int {
	gap := f.P - f.B
	out := []int{math.MinInt, -most, -f.P, -1, 0, 1, gap - 1, gap, gap + 1, most - 1, most, most + 1, math.MaxInt}
	whole := most/f.P - 3
	for _, k := range []int{0, 1, 2, 3, 50, 1 << 40, whole - 1, whole} {
		if k > whole {
			continue
		}
		for by := -1; by <= 1; by++ {
			out = append(out, k*f.P+by, k*f.P+gap+by, k*f.P+2*gap+by, k*f.P+f.B+by)
		}
	}
	slices.Sort(out)
	return slices.Compact(out)
}

// modelBound is the document's word for the bound: of each period that n of the t ticks are in, all ticks but these may be provided, and only what is left of B has to be among them. It tries all ticks of a period as the first one.
func modelBound(f api.Face, t int) (int, api.Errno) {
	if f.B < 1 || f.B > f.P || f.P > 200 || t < 0 || t > most {
		return 0, api.ErrArg
	}
	return modelOfValid(f, t), api.OK
}

// modelOfValid is modelBound for an interface and a number of ticks that are valid.
func modelOfValid(f api.Face, t int) int {
	among := func(n int) int { return max(0, f.B-(f.P-n)) }
	least := math.MaxInt
	for from := range f.P {
		first := min(f.P-from, t)
		rest := t - first
		least = min(least, among(first)+rest/f.P*f.B+among(rest%f.P))
	}
	return least
}

// modelLegal is the document's word: it looks for a whole period with too few ticks.
func modelLegal(f api.Face, list string) bool {
	if f.B < 1 || f.B > f.P || f.P > 200 {
		return false
	}
	for len(list) >= f.P {
		if strings.Count(list[:f.P], "1") < f.B {
			return false
		}
		list = list[f.P:]
	}
	return true
}

// modelLeast is the document's word: it counts the ticks at each place.
func modelLeast(list string, t int) int {
	if t < 0 || t > len(list) {
		return 0
	}
	least := math.MaxInt
	for from := 0; from <= len(list)-t; from++ {
		least = min(least, strings.Count(list[from:from+t], "1"))
	}
	return least
}

// checkBound checks one call of Bound.
func checkBound(t *testing.T, f api.Face, at, want int, err api.Errno) {
	t.Helper()
	if n, e := supply.Bound(f, at); n != want || e != err {
		t.Errorf("Bound(%+v, %d): %d, %d, want %d, %d", f, at, n, e, want, err)
	}
}

// checkLegal checks one call of Legal.
func checkLegal(t *testing.T, f api.Face, list string, want bool) {
	t.Helper()
	if got := supply.Legal(f, ticks(list)); got != want {
		t.Errorf("Legal(%+v, %s): %v", f, list, got)
	}
}

// checkLeast checks one call of Least.
func checkLeast(t *testing.T, list string, n, want int) {
	t.Helper()
	if got := supply.Least(ticks(list), n); got != want {
		t.Errorf("Least(%s, %d): %d, want %d", list, n, got, want)
	}
}

// extreme returns the pattern of P9.3: the ticks of the first period are at its beginning, and those of all others at their ends.
func extreme(f api.Face, periods int) []bool {
	given := make([]bool, f.P*periods)
	for at := range given {
		if at < f.P {
			given[at] = at < f.B
		} else {
			given[at] = at%f.P >= f.P-f.B
		}
	}
	return given
}

// byChance returns a pattern of f whose periods have B ticks, some of them more, at places by chance.
func byChance(r *rand.Rand, f api.Face, periods int) []bool {
	given := make([]bool, 0, f.P*periods)
	for range periods {
		n := f.B
		if r.Intn(4) == 0 {
			n += r.Intn(f.P - f.B + 1)
		}
		period := make([]bool, f.P)
		for k := range n {
			period[k] = true
		}
		switch r.Intn(3) {
		case 0:
			slices.Reverse(period)
		case 1:
			r.Shuffle(len(period), func(i, k int) { period[i], period[k] = period[k], period[i] })
		}
		given = append(given, period...)
	}
	return given
}

// P9.1: all interfaces in and around the limits.
func TestRight(t *testing.T) {
	valid := map[api.Face]bool{}
	for _, f := range faces(api.MaxTime) {
		valid[f] = true
	}
	if len(valid) != 20100 {
		t.Fatalf("%d interfaces", len(valid))
	}
	for p := -3; p <= api.MaxTime+3; p++ {
		for b := -3; b <= api.MaxTime+4; b++ {
			f := api.Face{P: p, B: b}
			if got := supply.Right(f); got != valid[f] {
				t.Errorf("Right(%+v): %v", f, got)
			}
		}
	}
	for _, f := range wrong() {
		if supply.Right(f) {
			t.Errorf("Right(%+v)", f)
		}
	}
}

// P9.1: B at 0, at 1, at P and at P + 1; P at 0, at 1, at MaxTime and above it; both below 0 and at the ends of int.
func TestRightAtTheEdges(t *testing.T) {
	rows := []struct {
		p, b int
		want bool
	}{
		{5, 0, false}, {5, 1, true}, {5, 4, true}, {5, 5, true}, {5, 6, false}, {5, -1, false}, {5, math.MinInt, false}, {5, math.MaxInt, false},
		{0, 0, false}, {0, 1, false}, {0, -1, false}, {1, 0, false}, {1, 1, true}, {1, 2, false},
		{200, 0, false}, {200, 1, true}, {200, 199, true}, {200, 200, true}, {200, 201, false}, {201, 0, false}, {201, 1, false}, {201, 200, false}, {201, 201, false}, {201, 202, false},
		{-1, -1, false}, {-1, 0, false}, {-1, 1, false}, {-5, -6, false}, {-200, -1, false}, {math.MinInt, math.MinInt, false}, {math.MinInt, 1, false}, {math.MinInt, math.MaxInt, false},
		{math.MaxInt, 1, false}, {math.MaxInt, math.MaxInt, false}, {math.MaxInt, math.MinInt, false}, {most, most, false},
	}
	for _, r := range rows {
		f := api.Face{P: r.p, B: r.b}
		if got := supply.Right(f); got != r.want {
			t.Errorf("Right(%+v): %v", f, got)
		}
		err := api.ErrArg
		if r.want {
			err = api.OK
		}
		checkBound(t, f, 0, 0, err)
		checkLegal(t, f, "", r.want)
		checkLegal(t, f, strings.Repeat("1", 1000), r.want)
	}
}

// P9.1
func TestBound(t *testing.T) {
	rows := []struct {
		p, b int
		want string
	}{
		{1, 1, "0 1 2 3 4 5 6"}, {2, 1, "0 0 0 1 1 2 2 3 3 4"}, {2, 2, "0 1 2 3 4 5 6"},
		{3, 1, "0 0 0 0 0 1 1 1 2 2 2 3"}, {3, 2, "0 0 0 1 2 2 3 4 4 5 6 6"}, {3, 3, "0 1 2 3 4 5 6 7"},
		{4, 1, "0 0 0 0 0 0 0 1 1 1 1 2 2 2 2 3"}, {4, 2, "0 0 0 0 0 1 2 2 2 3 4 4 4 5 6 6"}, {4, 3, "0 0 0 1 2 3 3 4 5 6 6 7 8 9 9"},
		{5, 2, "0 0 0 0 0 0 0 1 2 2 2 2 3 4 4 4 4 5 6 6"}, {5, 4, "0 0 0 1 2 3 4 4 5 6 7 8 8 9 10"},
	}
	for _, r := range rows {
		for at, word := range strings.Fields(r.want) {
			want := 0
			for _, c := range word {
				want = 10*want + int(c-'0')
			}
			checkBound(t, api.Face{P: r.p, B: r.b}, at, want, api.OK)
		}
	}
}

// P9.1: t below 0, at 0, around P - B and k * P + 2 * (P - B), at MaxNum and above it, and at the ends of int.
func TestBoundAtTheEdges(t *testing.T) {
	rows := []struct {
		p, b, t, want int
		err           api.Errno
	}{
		{5, 2, math.MinInt, 0, api.ErrArg}, {5, 2, -5, 0, api.ErrArg}, {5, 2, -1, 0, api.ErrArg}, {5, 2, 0, 0, api.OK}, {5, 2, 1, 0, api.OK},
		{5, 2, 2, 0, api.OK}, {5, 2, 3, 0, api.OK}, {5, 2, 4, 0, api.OK}, {5, 2, 5, 0, api.OK}, {5, 2, 6, 0, api.OK}, {5, 2, 7, 1, api.OK}, {5, 2, 8, 2, api.OK},
		{5, 2, 505, 200, api.OK}, {5, 2, 506, 200, api.OK}, {5, 2, 507, 201, api.OK}, {5, 2, 508, 202, api.OK}, {5, 2, 509, 202, api.OK}, {5, 2, 510, 202, api.OK}, {5, 2, 511, 202, api.OK}, {5, 2, 512, 203, api.OK},
		{1, 1, most - 1, most - 1, api.OK}, {1, 1, most, most, api.OK}, {1, 1, most + 1, 0, api.ErrArg}, {1, 1, math.MaxInt, 0, api.ErrArg}, {1, 1, math.MinInt, 0, api.ErrArg}, {1, 1, -1, 0, api.ErrArg},
		{200, 200, most, most, api.OK}, {200, 200, most - 137, most - 137, api.OK}, {200, 200, most + 1, 0, api.ErrArg}, {200, 200, 0, 0, api.OK}, {200, 200, 1, 1, api.OK}, {200, 200, 200, 200, api.OK}, {200, 200, 201, 201, api.OK},
		{200, 1, 198, 0, api.OK}, {200, 1, 199, 0, api.OK}, {200, 1, 200, 0, api.OK}, {200, 1, 397, 0, api.OK}, {200, 1, 398, 0, api.OK}, {200, 1, 399, 1, api.OK}, {200, 1, 400, 1, api.OK}, {200, 1, 598, 1, api.OK}, {200, 1, 599, 2, api.OK},
		// MaxNum is 199 + 200 * 23058430092136938 + 104, and 1 + 2 * 2305843009213693951: behind P - B there are just as many whole periods.
		{200, 1, most, 23058430092136938, api.OK}, {2, 1, most, most / 2, api.OK}, {2, 1, most - 1, most/2 - 1, api.OK}, {200, 1, most + 1, 0, api.ErrArg}, {2, 1, math.MaxInt, 0, api.ErrArg},
		{201, 1, 5, 0, api.ErrArg}, {5, 0, 5, 0, api.ErrArg}, {5, 6, 5, 0, api.ErrArg}, {0, 0, 5, 0, api.ErrArg}, {0, 0, 0, 0, api.ErrArg}, {-1, -1, 5, 0, api.ErrArg}, {0, 1, most, 0, api.ErrArg}, {5, 6, -1, 0, api.ErrArg},
	}
	for _, r := range rows {
		checkBound(t, api.Face{P: r.p, B: r.b}, r.t, r.want, r.err)
	}
}

// P9.1: each valid interface, at all edges of its bound.
func TestBoundAsDescribed(t *testing.T) {
	wrongLengths := []int{math.MinInt, math.MinInt + 1, -most, -200, -1, most + 1, most + 2, math.MaxInt}
	for _, f := range faces(api.MaxTime) {
		for _, at := range lengths(f) {
			if 0 <= at && at <= most {
				checkBound(t, f, at, modelOfValid(f, at), api.OK)
			}
		}
		for _, at := range wrongLengths {
			checkBound(t, f, at, 0, api.ErrArg)
		}
	}
	for _, f := range wrong() {
		for _, at := range append(lengths(api.Face{P: 5, B: 2}), wrongLengths...) {
			checkBound(t, f, at, 0, api.ErrArg)
		}
	}
}

// P9.1: each number of ticks of some interfaces, and numbers by chance up to MaxNum.
func TestBoundForAnyTicks(t *testing.T) {
	for _, f := range append(faces(14), api.Face{P: 199, B: 1}, api.Face{P: 200, B: 100}, api.Face{P: 200, B: 199}, api.Face{P: 200, B: 200}) {
		for at := range 6 * f.P {
			checkBound(t, f, at, modelOfValid(f, at), api.OK)
		}
	}
	r := rand.New(rand.NewSource(91))
	for range 5000 {
		f := api.Face{P: 1 + r.Intn(api.MaxTime+2)}
		f.B = r.Intn(f.P + 2)
		at := int(r.Uint64()>>1) >> r.Intn(60)
		want, err := modelBound(f, at)
		checkBound(t, f, at, want, err)
	}
}

// P9.2: no tick, less than a period, whole periods, and a period in part at the end.
func TestLegal(t *testing.T) {
	rows := []struct {
		p, b int
		list string
		want bool
	}{
		{5, 2, "", true}, {5, 2, "0", true}, {5, 2, "0000", true}, {5, 2, "1111", true}, {5, 2, "00000", false}, {5, 2, "10000", false}, {5, 2, "11000", true}, {5, 2, "00011", true}, {5, 2, "10001", true}, {5, 2, "11111", true},
		{5, 2, "11000 00011 01010", true}, {5, 2, "11000 00011 01010 0", true}, {5, 2, "11000 00011 01010 0000", true}, {5, 2, "11000 00011 01010 1111", true}, {5, 2, "11000 00011 01010 00000", false},
		// A tick too few in the first whole period, in one in the middle, in the last one, and in the period in part.
		{5, 2, "10000 11111 11111 1111", false}, {5, 2, "11111 00001 11111 1111", false}, {5, 2, "11111 11111 00100 1111", false}, {5, 2, "11111 11111 11111 0100", true}, {5, 2, "11111 11111 11111 0000", true},
		{5, 2, "01000 11000 11000", false}, {5, 2, "11000 01000 11000", false}, {5, 2, "11000 11000 01000", false}, {5, 2, "11000 11000 11000", true},
		// The places matter: enough ticks in all, also in P ticks from another one on.
		{5, 2, "00001 11110 00001", false}, {5, 2, "11111 00000", false}, {5, 2, "0 11000 11000 1100", true}, {5, 2, "11000 00000 00011", false}, {3, 3, "111 111", true}, {3, 3, "111 110 111", false}, {3, 3, "11", true},
		{1, 1, "", true}, {1, 1, "1", true}, {1, 1, "0", false}, {1, 1, "1111", true}, {1, 1, "1110", false}, {1, 1, "0111", false}, {2, 1, "0", true}, {2, 1, "01 10 0", true}, {2, 1, "01 00 1", false},
		{5, 1, "00100 10000 00001 0", true}, {5, 1, "00100 00000 00001 0", false}, {5, 5, "11111 11111 0", true}, {5, 5, "11111 11101 1", false},
		// Interfaces that are not valid.
		{5, 0, "11111", false}, {5, 0, "00000", false}, {5, 6, "11111", false}, {5, -1, "11111", false}, {0, 0, "1", false}, {0, 0, "", false}, {0, 1, "11", false}, {-5, -2, "11000", false}, {-5, 2, "11000", false}, {1, 0, "11", false}, {1, 2, "11", false}, {201, 1, "", false}, {201, 1, "111", false},
		{math.MaxInt, 1, "1", false}, {math.MaxInt, math.MaxInt, "1", false}, {math.MinInt, math.MinInt, "1", false}, {math.MinInt, 1, "1", false}, {5, math.MinInt, "11111", false}, {5, math.MaxInt, "11111", false},
	}
	for _, r := range rows {
		checkLegal(t, api.Face{P: r.p, B: r.b}, strings.ReplaceAll(r.list, " ", ""), r.want)
	}
}

// P9.2: all lists of up to nine ticks with all interfaces in and around these.
func TestLegalAsDescribed(t *testing.T) {
	for _, list := range texts(9) {
		for p := -1; p <= 11; p++ {
			for b := -1; b <= p+1; b++ {
				f := api.Face{P: p, B: b}
				checkLegal(t, f, list, modelLegal(f, list))
			}
		}
		for _, f := range wrong() {
			if supply.Legal(f, ticks(list)) {
				t.Errorf("Legal(%+v, %s)", f, list)
			}
		}
	}
}

// P9.2: long patterns, each whole, with a tick less in one of its periods, and with the last period in part.
func TestLegalWithATickLess(t *testing.T) {
	r := rand.New(rand.NewSource(92))
	for _, f := range append(faces(9), api.Face{P: 200, B: 1}, api.Face{P: 200, B: 77}, api.Face{P: 200, B: 200}, api.Face{P: 199, B: 198}) {
		for periods := 1; periods <= 7; periods++ {
			given := slices.Concat(slices.Repeat([][]bool{extreme(f, 1)}, periods)...)
			for period := range periods {
				at := period*f.P + r.Intn(f.B)
				fewer := slices.Clone(given)
				fewer[at] = false
				for part := range f.P {
					whole := periods*f.P - part
					checkLegal(t, f, text(given[:whole]), true)
					checkLegal(t, f, text(fewer[:whole]), period == periods-1 && part > 0)
				}
			}
		}
	}
}

// P9.2: t below 0, at 0, at 1, at the number of ticks and at one more; the fewest ticks at the beginning, in the middle and at the end.
func TestLeast(t *testing.T) {
	rows := []struct {
		list    string
		t, want int
	}{
		{"11011", -1, 0}, {"11011", math.MinInt, 0}, {"11011", 0, 0}, {"11011", 1, 0}, {"11011", 2, 1}, {"11011", 3, 2}, {"11011", 4, 3}, {"11011", 5, 4}, {"11011", 6, 0}, {"11011", math.MaxInt, 0}, {"11011", most, 0},
		{"11111", -1, 0}, {"11111", 0, 0}, {"11111", 1, 1}, {"11111", 4, 4}, {"11111", 5, 5}, {"11111", 6, 0}, {"11111", math.MinInt, 0}, {"11111", -5, 0}, {"00000", 1, 0}, {"00000", 3, 0}, {"00000", 5, 0},
		{"", 0, 0}, {"", 1, 0}, {"", -1, 0}, {"", math.MaxInt, 0}, {"", math.MinInt, 0}, {"1", 0, 0}, {"1", 1, 1}, {"1", 2, 0}, {"0", 1, 0},
		{"00101110111", 3, 1}, {"01011110111", 3, 1}, {"01111111111", 3, 2}, {"11101011111", 3, 1}, {"11111111110", 3, 2}, {"11101111001", 3, 1}, {"11101111100", 3, 1}, {"11101111010", 3, 1},
		{"00111111111", 4, 2}, {"11110011111", 4, 2}, {"11111111100", 4, 2}, {"11111110011", 4, 2}, {"10011110111", 4, 2}, {"11101111001", 4, 2}, {"01110111011", 4, 3}, {"01111011110", 5, 4},
		{"00111111111", 10, 8}, {"11111111100", 10, 8}, {"11111011111", 10, 9}, {"01111111111", 10, 9}, {"11111111110", 10, 9}, {"01111111111", 11, 10}, {"01111111111", 12, 0},
	}
	for _, r := range rows {
		checkLeast(t, r.list, r.t, r.want)
	}
}

// P9.2: all lists of up to eleven ticks, for each number of ticks in and around them.
func TestLeastAsDescribed(t *testing.T) {
	for _, list := range texts(11) {
		for n := -2; n <= len(list)+2; n++ {
			checkLeast(t, list, n, modelLeast(list, n))
		}
		for _, n := range []int{math.MinInt, -most, 1 << 32, most, math.MaxInt} {
			checkLeast(t, list, n, 0)
		}
	}
	r := rand.New(rand.NewSource(93))
	for range 300 {
		given := make([]bool, r.Intn(600))
		often := 1 + r.Intn(6)
		for k := range given {
			given[k] = r.Intn(often) == 0
		}
		for range 10 {
			n := r.Intn(len(given) + 2)
			checkLeast(t, text(given), n, modelLeast(text(given), n))
		}
	}
}

// leastOfAll returns, for each number of ticks up to n, the smallest Least of the legal lists among these.
func leastOfAll(f api.Face, lists [][]bool, n int) []int {
	least := slices.Repeat([]int{math.MaxInt}, n+1)
	for _, given := range lists {
		if !supply.Legal(f, given) {
			continue
		}
		for at := range least {
			least[at] = min(least[at], supply.Least(given, at))
		}
	}
	return least
}

// P9.3: of all the patterns of a small interface the smallest number of ticks is the bound, neither less nor more.
func TestTheBoundIsTheLeastSupply(t *testing.T) {
	for p, periods := range map[int]int{1: 6, 2: 6, 3: 4, 4: 3, 5: 3} {
		var whole [][]bool
		for _, list := range texts(p * periods) {
			if len(list) == p*periods {
				whole = append(whole, ticks(list))
			}
		}
		for b := 1; b <= p; b++ {
			f := api.Face{P: p, B: b}
			for at, want := range leastOfAll(f, whole, p*periods-b) {
				checkBound(t, f, at, want, api.OK)
			}
		}
	}
}

// P9.3: patterns by chance, also cut off anywhere, and from any tick on.
func TestNoPatternHasLessThanTheBound(t *testing.T) {
	r := rand.New(rand.NewSource(94))
	equal := 0
	for _, f := range append(faces(20), api.Face{P: 200, B: 1}, api.Face{P: 200, B: 60}, api.Face{P: 200, B: 199}, api.Face{P: 200, B: 200}, api.Face{P: 137, B: 70}) {
		for range 8 {
			given := byChance(r, f, 1+r.Intn(6))
			from := r.Intn(len(given))
			given, later := given[:len(given)-r.Intn(f.P)], given[from:]
			if !supply.Legal(f, given) {
				t.Fatalf("Legal(%+v, %s)", f, text(given))
			}
			for range 10 {
				at := r.Intn(len(given) + 1)
				bound, err := supply.Bound(f, at)
				least := supply.Least(given, at)
				if least < bound || err != api.OK || at <= len(later) && supply.Least(later, at) < bound {
					t.Errorf("%+v, %s, %d ticks: %d, and the bound is %d", f, text(given), at, least, bound)
				}
				if least == bound && bound > 0 {
					equal++
				}
			}
		}
	}
	if equal < 100 {
		t.Errorf("too few patterns with just the bound: %d", equal)
	}
}

// P9.3: the pattern with just the bound.
func TestTheExtremePatternHasTheBound(t *testing.T) {
	all := append(faces(16), api.Face{P: 99, B: 33}, api.Face{P: 200, B: 1}, api.Face{P: 200, B: 60}, api.Face{P: 200, B: 150}, api.Face{P: 200, B: 199}, api.Face{P: 200, B: 200})
	for _, f := range all {
		given := extreme(f, 5)
		if !supply.Legal(f, given) {
			t.Fatalf("Legal(%+v, %s)", f, text(given))
		}
		for at := range len(given) - f.B + 1 {
			checkBound(t, f, at, supply.Least(given, at), api.OK)
			checkBound(t, f, at, strings.Count(text(given[f.B:f.B+at]), "1"), api.OK)
		}
	}
}

// bounds returns the bounds of a valid interface for n numbers of ticks, from this one on.
func bounds(t *testing.T, f api.Face, from, n int) []int {
	t.Helper()
	out := make([]int, n)
	for k := range out {
		var err api.Errno
		if out[k], err = supply.Bound(f, from+k); err != api.OK {
			t.Fatalf("Bound(%+v, %d): error %d", f, from+k, err)
		}
	}
	return out
}

// P9.4: from tick to tick, and from period to period, at 0, far from it, and up to MaxNum.
func TestHowTheBoundIncreases(t *testing.T) {
	for _, f := range faces(api.MaxTime) {
		n := 3*f.P + 2
		for _, begin := range []int{0, 1 << 40, most - n + 1} {
			if begin > 0 && f.P > 30 && f.B%33 > 1 {
				continue
			}
			all := bounds(t, f, begin, n)
			for k, now := range all {
				at := begin + k
				if now < 0 || now > at {
					t.Errorf("%+v: the bound for %d is %d", f, at, now)
				}
				if k > 0 && now != all[k-1] && now != all[k-1]+1 {
					t.Errorf("%+v: the bound for %d is %d, and for one less %d", f, at, now, all[k-1])
				}
				if k >= f.P && at-f.P >= f.P-f.B && now != all[k-f.P]+f.B {
					t.Errorf("%+v: the bound for %d is %d, and for a period less %d", f, at, now, all[k-f.P])
				}
			}
		}
	}
}

// The example of the chapter.
func TestExample(t *testing.T) {
	for at, want := range map[int]int{3: 0, 6: 0, 7: 1, 8: 2, 11: 2, 13: 4} {
		checkBound(t, api.Face{P: 5, B: 2}, at, want, api.OK)
	}
}

// results returns what all the calls return.
func results(f api.Face, given []bool) []int {
	var out []int
	for _, at := range []int{-1, 0, 1, 2, f.P - f.B, len(given) - 1, len(given), len(given) + 1, 1000} {
		n, err := supply.Bound(f, at)
		out = append(out, n, int(err), supply.Least(given, at))
	}
	for _, held := range []bool{supply.Right(f), supply.Legal(f, given)} {
		if held {
			out = append(out, 1)
		} else {
			out = append(out, 0)
		}
	}
	return out
}

// some returns interfaces, valid and not.
func some() []api.Face {
	return append(wrong(), faces(5)...)
}

// R3: no call changes the ticks or what lies behind these, and none looks there.
func TestArgumentsDoNotChange(t *testing.T) {
	for _, list := range texts(7) {
		for _, behind := range []string{"", "0000000000", "1111111111", "0110100110"} {
			whole := ticks(list + behind)
			given := whole[:len(list)]
			for _, f := range faces(4) {
				if got, want := results(f, given), results(f, ticks(list)); !slices.Equal(got, want) {
					t.Errorf("%+v, %s ahead of %s: %v, want %v", f, list, behind, got, want)
				}
			}
			if text(whole) != list+behind {
				t.Errorf("a call changed its arguments: %s to %s", list+behind, text(whole))
			}
		}
	}
}

// R3, R4: no call keeps what it is given: after other calls, and after a change in the same memory, the results are those of new memory.
func TestNothingIsKept(t *testing.T) {
	r := rand.New(rand.NewSource(95))
	memory := make([]bool, 64)
	lists := texts(8)
	for _, f := range some() {
		for range 20 {
			list, other := lists[r.Intn(len(lists))], lists[r.Intn(len(lists))]
			want := results(f, ticks(list))
			results(f, memory[:copy(memory, ticks(other))])
			given := memory[:copy(memory, ticks(list))]
			for range 2 {
				if got := results(f, given); !slices.Equal(got, want) {
					t.Errorf("the results of %+v, %s: %v, and before %v", f, list, got, want)
				}
			}
		}
	}
}

// R3: a nil list and an empty one are the same.
func TestNoListAndAnEmptyOne(t *testing.T) {
	for _, f := range some() {
		want := results(f, nil)
		for _, given := range [][]bool{{}, make([]bool, 0, 9), ticks("11111")[:0], ticks("11111")[5:]} {
			if got := results(f, given); !slices.Equal(got, want) {
				t.Errorf("%+v: no list: %v, an empty one: %v", f, want, got)
			}
		}
	}
}

// R1: any structs, the ends of int, and long lists.
func TestEveryCallReturns(t *testing.T) {
	edges := []int{math.MinInt, -201, -1, 0, 1, 2, 200, 201, most, most + 1, math.MaxInt}
	for _, list := range []string{"", "1", "0", "110", strings.Repeat("01", 300)} {
		given := ticks(list)
		for _, p := range edges {
			for _, b := range edges {
				f := api.Face{P: p, B: b}
				checkLegal(t, f, list, modelLegal(f, list))
				for _, at := range edges {
					supply.Bound(f, at)
					checkLeast(t, list, at, modelLeast(list, at))
				}
			}
		}
		results(api.Face{P: 7, B: 3}, given)
	}
	given := slices.Repeat(ticks("1100010100"), 1<<17)
	if n := supply.Least(given, len(given)/2); n != len(given)/2*4/10 {
		t.Errorf("half of a long list: %d", n)
	}
	if !supply.Legal(api.Face{P: 200, B: 80}, given) || supply.Legal(api.Face{P: 200, B: 81}, given) || !supply.Legal(api.Face{P: 10, B: 4}, given) || supply.Legal(api.Face{P: 5, B: 3}, given) {
		t.Error("a long list")
	}
}
