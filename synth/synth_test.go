package synth_test

import (
	"math"
	"math/rand"
	"slices"
	"strconv"
	"strings"
	"testing"

	"remontoir/api"
	"remontoir/supply"
	"remontoir/synth"
)

type faces = []api.Face

// of returns interfaces, of the numbers taken in twos: P, B.
func of(n ...int) faces {
	var l faces
	for i := 0; i+1 < len(n); i += 2 {
		l = append(l, api.Face{P: n[i], B: n[i+1]})
	}
	return l
}

// text returns a layout as text: a digit for each interface, and a dot for none.
func text(ticks []int) string {
	var out strings.Builder
	for _, n := range ticks {
		if n == -1 {
			out.WriteString(".")
		} else {
			out.WriteString(strconv.Itoa(n))
		}
	}
	return out.String()
}

// An answer is all that the three calls return.
type answer struct {
	frame, share int
	ticks        string
	err, layErr  api.Errno
}

// failed returns the answer with an error of Frame, which all the calls return: all else is zero.
func failed(err api.Errno) answer { return answer{err: err, layErr: err} }

// laid returns the answer of interfaces with this layout.
func laid(ticks string) answer {
	return answer{frame: len(ticks), share: len(ticks) - strings.Count(ticks, "."), ticks: ticks}
}

// denied returns the answer of interfaces of which one is late.
func denied(share, frame int) answer {
	return answer{frame: frame, share: share, layErr: api.ErrDeny}
}

// calls returns what the calls return.
func calls(t *testing.T, l faces) answer {
	t.Helper()
	frame, err := synth.Frame(l)
	share, of, shareErr := synth.Share(l)
	ticks, layErr := synth.Lay(l)
	if of != frame || shareErr != err {
		t.Errorf("Frame(%v): %d, %d, and Share: %d, %d, %d", l, frame, err, share, of, shareErr)
	}
	return answer{frame, share, text(ticks), err, layErr}
}

// check checks one call of each.
func check(t *testing.T, l faces, want answer) {
	t.Helper()
	if got := calls(t, l); got != want {
		t.Errorf("%v: %+v, want %+v", l, got, want)
	}
}

// isList is the document's word.
func isList(l faces) bool {
	return len(l) <= 4 && !slices.ContainsFunc(l, func(f api.Face) bool { return f.B < 1 || f.B > f.P || f.P > 200 })
}

// modelFrame is the document's word: it tries the numbers one after the other.
func modelFrame(l faces) (int, api.Errno) {
	if !isList(l) {
		return 0, api.ErrArg
	}
	for n := 1; n <= 240; n++ {
		if !slices.ContainsFunc(l, func(f api.Face) bool { return n%f.P != 0 }) {
			return n, api.OK
		}
	}
	return 0, api.ErrLarge
}

// got returns how many of the ticks are given to interface i.
func got(ticks []int, i int) int {
	n := 0
	for _, k := range ticks {
		if k == i {
			n++
		}
	}
	return n
}

// late reports whether at tick t, behind the ticks that are given, an interface begins a period and has too few of the one before.
func late(l faces, given []int) bool {
	t := len(given)
	for i, f := range l {
		if t > 0 && t%f.P == 0 && got(given[t-f.P:], i) < f.B {
			return true
		}
	}
	return false
}

// earliest returns the interface to which the tick behind the given ones goes. It counts anew what each has of its period, and seeks its deadline tick by tick.
func earliest(l faces, given []int) int {
	t, best, due := len(given), -1, 0
	for i, f := range l {
		next := t + 1
		for next%f.P != 0 {
			next++
		}
		if got(given[t-t%f.P:], i) < f.B && (best < 0 || next < due) {
			best, due = i, next
		}
	}
	return best
}

// model is the document's word: it returns the answer, and the tick at which one is late; 0, if none is.
func model(l faces) (answer, int) {
	frame, err := modelFrame(l)
	if err != api.OK {
		return failed(err), 0
	}
	share := 0
	for t := range frame {
		for _, f := range l {
			if t%f.P == 0 {
				share += f.B
			}
		}
	}
	var given []int
	for len(given) < frame && !late(l, given) {
		given = append(given, earliest(l, given))
	}
	if late(l, given) {
		return denied(share, frame), len(given)
	}
	return answer{frame: frame, share: share, ticks: text(given)}, 0
}

// all returns all valid interfaces with a P of at most n.
func all(n int) faces {
	var l faces
	for p := 1; p <= n; p++ {
		for b := 1; b <= p; b++ {
			l = append(l, api.Face{P: p, B: b})
		}
	}
	return l
}

// lists returns all lists of n of the interfaces.
func lists(from faces, n int) []faces {
	if n == 0 {
		return []faces{nil}
	}
	var out []faces
	for _, rest := range lists(from, n-1) {
		for _, f := range from {
			out = append(out, append(slices.Clip(rest), f))
		}
	}
	return out
}

// small returns all lists of one interface, of two and three with a small P, and of four with a smaller one.
func small() []faces {
	return slices.Concat(lists(nil, 0), lists(all(30), 1), lists(all(9), 2), lists(all(5), 3), lists(all(4), 4))
}

// divisors returns the P that an interface in a frame with n ticks may have.
func divisors(n int) []int {
	var out []int
	for p := 1; p <= min(n, api.MaxTime); p++ {
		if n%p == 0 {
			out = append(out, p)
		}
	}
	return out
}

// mixed returns lists by chance, in small frames and great ones, of interfaces that want about the whole frame together.
func mixed(seed int64, n int) []faces {
	r := rand.New(rand.NewSource(seed))
	var out []faces
	for range n {
		ps := divisors([]int{240, 240, 240, 180, 210, 216, 200, 168, 120, 1 + r.Intn(240)}[r.Intn(10)])
		var l faces
		count := 1 + r.Intn(api.MaxParts)
		for range count {
			p := ps[r.Intn(len(ps))]
			b := (p + r.Intn(p+1)) / count
			l = append(l, api.Face{P: p, B: min(p, max(1, b+r.Intn(3)-1))})
		}
		out = append(out, l)
	}
	return out
}

// wrong returns interfaces that are not valid.
func wrong() faces {
	l := of(5, 0, 5, -1, 200, 0, 200, -200, 1, 0, 1, -1, 5, 6, 1, 2, 200, 201, 5, 200, 201, 1, 201, 200, 201, 201, 201, 202, 201, 0, 240, 1, 240, 240, 400, 1,
		0, 0, 0, 1, 0, -1, -1, -1, -1, 0, -1, 1, -5, -6, -5, -5, -5, 2, -200, 1, 1<<32, 1, 1<<32+5, 2, 1<<32+5, 1<<32+2, 5, 1<<32+2, -1<<32+5, 2)
	ends := []int{math.MinInt, math.MinInt + 1, -api.MaxNum, api.MaxNum, math.MaxInt - 1, math.MaxInt}
	for _, n := range ends {
		l = append(l, of(n, 1, n, 0, 5, n, 200, n, 0, n, n, 2, n, 200)...)
		for _, m := range ends {
			l = append(l, of(n, m)...)
		}
	}
	return l
}

// The examples of the chapter and of the whole.
func TestExample(t *testing.T) {
	l, err := synth.Lay(of(2, 1, 4, 2))
	if !slices.Equal(l, []int{0, 1, 0, 1}) || err != api.OK {
		t.Errorf("%v, %d", l, err)
	}
}

// P12.1: P that are equal, that divide each other, and that have no common divisor, or one that is less than both; in any order.
func TestFrame(t *testing.T) {
	rows := []struct {
		want int
		l    faces
	}{
		{1, nil}, {1, of(1, 1)}, {1, of(1, 1, 1, 1, 1, 1, 1, 1)},
		{7, of(7, 2)}, {200, of(200, 1)}, {199, of(199, 199)},
		{6, of(6, 1, 6, 6)}, {200, of(200, 1, 200, 200, 200, 5, 200, 9)}, {5, of(5, 1, 5, 2, 5, 3)},
		{12, of(12, 1, 4, 1)}, {16, of(2, 1, 4, 1, 8, 1, 16, 1)}, {16, of(16, 3, 8, 2, 4, 1, 2, 1)}, {200, of(1, 1, 200, 1)}, {200, of(200, 1, 100, 1, 50, 1, 25, 1)},
		{6, of(2, 1, 3, 1)}, {30, of(2, 1, 3, 1, 5, 1)}, {210, of(2, 1, 3, 1, 5, 1, 7, 1)}, {210, of(14, 1, 15, 1)}, {221, of(13, 1, 17, 1)}, {180, of(4, 1, 5, 1, 9, 1)},
		{12, of(4, 3, 6, 1)}, {36, of(12, 1, 18, 1)}, {60, of(12, 1, 15, 1, 20, 1)}, {120, of(24, 1, 40, 1)}, {180, of(12, 1, 18, 1, 30, 1, 45, 1)},
	}
	for _, r := range rows {
		for range r.l {
			r.l = append(r.l[1:], r.l[0])
			if n, err := synth.Frame(r.l); n != r.want || err != api.OK {
				t.Errorf("Frame(%v): %d, %d, want %d", r.l, n, err, r.want)
			}
		}
	}
}

// P12.1: a frame that is exactly MaxFrame, and the least ones above it, of two to four interfaces.
func TestFramesAroundMaxFrame(t *testing.T) {
	for _, l := range []faces{of(80, 1, 3, 1), of(3, 1, 80, 80), of(15, 1, 16, 1), of(5, 5, 48, 1), of(120, 1, 16, 1), of(120, 7, 80, 7), of(60, 1, 48, 1), of(48, 1, 80, 1), of(3, 1, 5, 1, 16, 1), of(30, 1, 80, 1, 48, 2), of(2, 1, 3, 1, 5, 1, 16, 1), of(120, 1, 80, 1, 60, 1, 48, 1)} {
		if n, err := synth.Frame(l); n != 240 || err != api.OK {
			t.Errorf("Frame(%v): %d, %d", l, n, err)
		}
	}
	// No frame is 241 or 243, which have no divisors but powers of one prime, and are above MaxTime. The least ones above MaxFrame are 242 and 244 to 248.
	for _, l := range []faces{of(121, 1, 2, 1), of(2, 1, 121, 1), of(121, 1, 22, 1), of(122, 1, 4, 1), of(61, 1, 4, 1), of(49, 1, 5, 1), of(41, 1, 6, 1), of(82, 1, 3, 1), of(123, 1, 2, 1), of(13, 1, 19, 1), of(31, 1, 8, 1), of(124, 1, 8, 1), of(126, 1, 84, 1, 36, 1), of(3, 1, 5, 1, 17, 1), of(128, 1, 3, 1), of(121, 1, 1, 1, 2, 1, 11, 1), of(4, 1, 2, 1, 1, 1, 61, 1)} {
		check(t, l, failed(api.ErrLarge))
	}
	for _, l := range []faces{of(200, 1, 199, 1), of(200, 200, 199, 199, 197, 197, 193, 193), of(200, 1, 3, 1), of(200, 1, 120, 1), of(11, 1, 13, 1, 17, 1, 19, 1), of(3, 1, 7, 1, 13, 1), of(191, 1, 193, 1, 197, 1, 199, 1)} {
		check(t, l, failed(api.ErrLarge))
	}
}

// P12.1: all pairs of P, and lists of four P by chance.
func TestFrameAsDescribed(t *testing.T) {
	count := map[api.Errno]int{}
	checkFrame := func(l faces) {
		want, wantErr := modelFrame(l)
		n, err := synth.Frame(l)
		share, frame, shareErr := synth.Share(l)
		if n != want || err != wantErr || frame != want || shareErr != wantErr || share > len(l)*want {
			t.Errorf("%v: %d, %d, and the share: %d, %d, %d, want %d, %d", l, n, err, share, frame, shareErr, want, wantErr)
		}
		count[err]++
	}
	for a := 1; a <= api.MaxTime; a++ {
		for b := 1; b <= api.MaxTime; b++ {
			checkFrame(of(a, 1, b, b))
		}
	}
	r := rand.New(rand.NewSource(121))
	for range 20000 {
		var l faces
		for range r.Intn(5) {
			p := 1 + min(r.Intn(205), r.Intn(205), r.Intn(205))
			b := 1 + r.Intn(p)
			if r.Intn(50) == 0 {
				b = r.Intn(2) * (p + 1)
			}
			l = append(l, api.Face{P: p, B: b})
		}
		checkFrame(l)
	}
	for _, err := range []api.Errno{api.OK, api.ErrArg, api.ErrLarge} {
		if count[err] < 100 {
			t.Errorf("too few cases of one kind: %v", count)
		}
	}
}

// P12.1: how many ticks all together want, also where they are more than the frame has.
func TestShare(t *testing.T) {
	rows := []struct {
		share, frame int
		l            faces
	}{
		{0, 1, nil}, {1, 1, of(1, 1)}, {2, 1, of(1, 1, 1, 1)}, {4, 1, of(1, 1, 1, 1, 1, 1, 1, 1)},
		{1, 200, of(200, 1)}, {200, 200, of(200, 200)}, {800, 200, of(200, 200, 200, 200, 200, 200, 200, 200)},
		{11, 12, of(4, 3, 6, 1)}, {4, 4, of(2, 1, 4, 2)}, {5, 6, of(2, 1, 3, 1)}, {6, 6, of(2, 1, 3, 1, 6, 1)}, {7, 6, of(2, 1, 3, 1, 6, 2)},
		{5, 4, of(2, 2, 4, 1)}, {201, 200, of(1, 1, 200, 1)}, {400, 200, of(1, 1, 200, 200)}, {247, 210, of(2, 1, 3, 1, 5, 1, 7, 1)},
		{239, 240, of(80, 38, 48, 25)}, {240, 240, of(80, 40, 48, 24)}, {241, 240, of(80, 42, 48, 23)}, {960, 240, of(80, 80, 48, 48, 3, 3, 5, 5)}, {119, 240, of(80, 8, 48, 19)},
	}
	for _, r := range rows {
		if share, frame, err := synth.Share(r.l); share != r.share || frame != r.frame || err != api.OK {
			t.Errorf("Share(%v): %d, %d, %d, want %d of %d", r.l, share, frame, err, r.share, r.frame)
		}
	}
}

// P12.1, P12.2: one that is not valid, at any place, of one to five interfaces; beside others that are valid, whose frame is too large, or that want too much.
func TestFacesThatAreNotValid(t *testing.T) {
	for _, f := range wrong() {
		if supply.Right(f) {
			t.Fatalf("%v is valid", f)
		}
		for _, others := range []faces{of(4, 1, 4, 1, 4, 1, 4, 1, 4, 1), of(199, 1, 197, 1, 193, 1, 191, 1, 181, 1), of(1, 1, 1, 1, 1, 1, 1, 1, 1, 1), of(200, 200, 199, 199, 197, 197, 3, 3, 7, 7)} {
			for n := 1; n <= 5; n++ {
				for place := range n {
					l := slices.Clone(others[:n])
					l[place] = f
					check(t, l, failed(api.ErrArg))
				}
			}
		}
	}
	for _, f := range of(1, 1, 2, 1, 2, 2, 199, 199, 200, 1, 200, 199, 200, 200) {
		if _, err := synth.Frame(faces{f}); err != api.OK {
			t.Errorf("Frame(%v): %d", f, err)
		}
	}
}

// P12.1, P12.2: from no interface to one more than there may be, and far more; all valid or not.
func TestTheNumberOfFaces(t *testing.T) {
	check(t, nil, laid("."))
	check(t, faces{}, laid("."))
	for n, ticks := range []string{".", "0....", "01...", "012..", "0123."} {
		check(t, slices.Repeat(of(5, 1), n), laid(ticks))
	}
	for n, want := range []answer{laid("."), laid("0"), denied(2, 1), denied(3, 1), denied(4, 1)} {
		check(t, slices.Repeat(of(1, 1), n), want)
	}
	for _, n := range []int{5, 6, 8, 100, 1 << 16} {
		for _, f := range of(5, 1, 1, 1, 200, 1, 200, 200, 0, 0, 5, 0, 5, 6, 201, 1, -1, -1, math.MaxInt, math.MinInt) {
			check(t, slices.Repeat(faces{f}, n), failed(api.ErrArg))
		}
	}
}

// R2: of several errors the first one that the promises name.
func TestSeveralErrors(t *testing.T) {
	rows := []struct {
		l   faces
		err api.Errno
	}{
		{of(200, 1, 199, 1, 0, 0), api.ErrArg},            // not valid, and too large
		{of(0, 0, 200, 1, 199, 1), api.ErrArg},            // the same
		{of(1, 1, 1, 1, 5, 6), api.ErrArg},                // not valid, and late
		{of(200, 200, 199, 199, 201, 1), api.ErrArg},      // not valid, too large, and too much
		{of(2, 1, 3, 1, 5, 1, 16, 1, 7, 1), api.ErrArg},   // too many, and too large with all of them
		{of(3, 1, 7, 1, 13, 1, 1, 1, 1, 1), api.ErrArg},   // too many, and too large
		{slices.Repeat(of(1, 1), 5), api.ErrArg},          // too many, and late
		{of(2, 1, 0, 0, 2, 1, 2, 1, 2, 1), api.ErrArg},    // too many, and not valid
		{of(199, 1, 0, 0, 197, 197, 3, 3), api.ErrArg},    // not valid between others
		{of(200, 200, 199, 199), api.ErrLarge},            // too large, and too much
		{of(1, 1, 1, 1, 121, 121, 2, 2), api.ErrLarge},    // too large, and late at 1
		{of(16, 16, 17, 17, 16, 16, 17, 1), api.ErrLarge}, // the same, at 16
		{of(1, 1, 121, 1, 2, 1), api.ErrLarge},            // the same, at 2
	}
	for _, r := range rows {
		check(t, r.l, failed(r.err))
	}
}

// P12.2: layouts, tick by tick: of equal deadlines the smallest number, ticks that nobody wants, and one with an earlier deadline between the ticks of another.
func TestLay(t *testing.T) {
	rows := []struct {
		ticks string
		l     faces
	}{
		{".", nil}, {"0", of(1, 1)}, {"0.", of(2, 1)}, {"0..", of(3, 1)}, {"000", of(3, 3)},
		{"0" + strings.Repeat(".", 199), of(200, 1)}, {strings.Repeat("0", 200), of(200, 200)}, {strings.Repeat("0", 99) + strings.Repeat("1", 100) + ".", of(200, 99, 200, 100)},
		{"0101", of(2, 1, 4, 2)}, {"1001", of(4, 2, 2, 1)}, {"01010.", of(2, 1, 3, 1)}, {"10101.", of(3, 1, 2, 1)}, {"01..0.1.0...", of(4, 1, 6, 1)},
		{"0123", of(4, 1, 4, 1, 4, 1, 4, 1)}, {"001.", of(4, 2, 4, 1)}, {"011.", of(4, 1, 4, 2)}, {"001122", of(6, 2, 6, 2, 6, 2)}, {"0112223333", of(10, 1, 10, 2, 10, 3, 10, 4)},
		{"1010101001", of(10, 5, 2, 1)}, {"0101010101", of(2, 1, 10, 5)}, {"01020103", of(2, 1, 4, 1, 8, 1, 8, 1)},
	}
	for _, r := range rows {
		check(t, r.l, laid(r.ticks))
	}
}

// P12.2: an interface that is late inside the frame, and one that is late at its end only.
func TestLate(t *testing.T) {
	rows := []struct {
		l    faces
		at   int
		want answer
	}{
		{of(2, 2, 2, 1, 4, 1), 2, denied(7, 4)},
		{of(1, 1, 1, 1, 2, 1), 1, denied(5, 2)},
		{of(2, 2, 4, 1), 4, denied(5, 4)},
		{of(1, 1, 2, 1), 2, denied(3, 2)},
		{of(1, 1, 1, 1), 1, denied(2, 1)},
		{of(1, 1, 200, 1), 200, denied(201, 200)},
		{of(200, 1, 1, 1), 200, denied(201, 200)},
	}
	for _, r := range rows {
		if _, at := model(r.l); at != r.at {
			t.Errorf("%v is late at %d, and not at %d", r.l, at, r.at)
		}
		check(t, r.l, r.want)
	}
}

// kind names what a list is: how its share is to its frame, and where one is late.
func kind(l faces, a answer, at int) string {
	switch {
	case a.err == api.ErrLarge:
		return "too large"
	case a.err != api.OK:
		return "not valid"
	case at > 0 && at < a.frame:
		return "late inside"
	case at > 0 && a.share == a.frame+1:
		return "late at the end, one above"
	case at > 0:
		return "late at the end"
	case a.share == a.frame:
		return "full"
	case a.share == a.frame-1:
		return "one below"
	}
	return "some that nobody wants"
}

// P12.1, P12.2, P12.3: many lists beside the model, small ones and such by chance; and that the layout succeeds exactly if the share is not above the frame.
func TestAsDescribed(t *testing.T) {
	count := map[string]int{}
	for _, l := range slices.Concat(small(), mixed(122, 3000)) {
		want, at := model(l)
		check(t, l, want)
		a := calls(t, l)
		if a.err == api.OK && (a.layErr == api.OK) != (a.share <= a.frame) {
			t.Errorf("%v: %d of %d, and Lay: %d", l, a.share, a.frame, a.layErr)
		}
		if a.err == api.OK && a.layErr != api.OK && a.layErr != api.ErrDeny {
			t.Errorf("Lay(%v): error %d", l, a.layErr)
		}
		count[kind(l, a, at)]++
	}
	for _, k := range []string{"late inside", "late at the end, one above", "late at the end", "full", "one below", "some that nobody wants"} {
		if count[k] < 100 {
			t.Errorf("too few cases of one kind: %v", count)
		}
	}
}

// P12.3: a share that is just the frame, one tick above it, and one below it, for frames up to MaxTime, with the one that makes up the rest at any place.
func TestAroundTheFrame(t *testing.T) {
	r := rand.New(rand.NewSource(123))
	tried := 0
	for range 3000 {
		frame := 1 + r.Intn(api.MaxTime)
		ps := divisors(frame)
		var l faces
		rest := frame
		for range 1 + r.Intn(3) {
			p := ps[r.Intn(len(ps))]
			f := api.Face{P: p, B: 1 + r.Intn(1+p/2)}
			l = append(l, f)
			rest -= frame / p * f.B
		}
		place := r.Intn(len(l) + 1)
		with := func(b int) faces { return slices.Insert(slices.Clone(l), place, api.Face{P: frame, B: b}) }
		if rest < 2 {
			continue
		}
		tried++
		if a := calls(t, with(rest)); a.layErr != api.OK || a.share != frame || len(a.ticks) != frame || strings.Contains(a.ticks, ".") {
			t.Errorf("%v: %+v", with(rest), a)
		}
		check(t, with(rest+1), denied(frame+1, frame))
		if a := calls(t, with(rest-1)); a.layErr != api.OK || a.share != frame-1 || len(a.ticks) != frame || strings.Count(a.ticks, ".") != 1 {
			t.Errorf("%v: %+v", with(rest-1), a)
		}
	}
	if tried < 500 {
		t.Errorf("only %d lists", tried)
	}
	for _, l := range []faces{of(80, 40, 48, 24), of(48, 24, 80, 40), of(80, 38, 48, 25), of(16, 8, 15, 4, 5, 1, 120, 4)} {
		want, _ := model(l)
		if a := calls(t, l); a != want || a.frame != 240 || a.layErr != api.OK {
			t.Errorf("%v: %+v, want %+v", l, a, want)
		}
	}
	check(t, of(80, 42, 48, 23), denied(241, 240))
	check(t, of(48, 23, 80, 42), denied(241, 240))
}

// checkPeriods checks what each interface has in a layout: exactly B ticks in each period, and a supply pattern for one frame and for several behind each other.
func checkPeriods(t *testing.T, l faces, ticks []int) {
	t.Helper()
	for i, f := range l {
		for from := 0; from < len(ticks); from += f.P {
			if n := got(ticks[from:from+f.P], i); n != f.B {
				t.Errorf("Lay(%v): %s gives %d ticks to %d from %d on", l, text(ticks), n, i, from)
			}
		}
		for _, times := range []int{1, 2, 3, 7} {
			repeated := slices.Repeat(ticks, times)
			given := make([]bool, len(repeated))
			for at, n := range repeated {
				given[at] = n == i
			}
			if !supply.Legal(f, given) {
				t.Errorf("Lay(%v): %s, %d times, is no supply pattern of %d", l, text(ticks), times, i)
			}
			if more := (api.Face{P: f.P, B: f.B + 1}); supply.Legal(more, given) {
				t.Errorf("Lay(%v): %s, %d times, is a supply pattern of %v", l, text(ticks), times, more)
			}
		}
	}
}

// P12.3, P12.4: as many ticks as the share says, each given to one of the interfaces; and what each of them has.
func TestWhatEachHas(t *testing.T) {
	tried := 0
	for _, l := range slices.Concat(small(), mixed(124, 3000)) {
		ticks, err := synth.Lay(l)
		if err != api.OK {
			continue
		}
		tried++
		share, frame, _ := synth.Share(l)
		given := 0
		for _, n := range ticks {
			if n < -1 || n >= len(l) {
				t.Fatalf("Lay(%v): %v", l, ticks)
			}
			if n >= 0 {
				given++
			}
		}
		if len(ticks) != frame || given != share {
			t.Errorf("Lay(%v): %s has %d of %d, and the share is %d of %d", l, text(ticks), given, len(ticks), share, frame)
		}
		checkPeriods(t, l, ticks)
	}
	if tried < 1000 {
		t.Errorf("only %d layouts", tried)
	}
}

// some returns lists, valid and not.
func some() []faces {
	out := []faces{nil, of(1, 1), of(2, 1, 4, 2), of(2, 2, 4, 1), of(2, 2, 2, 1, 4, 1), of(200, 1, 199, 1), of(80, 40, 48, 24), slices.Repeat(of(5, 1), 4), slices.Repeat(of(5, 1), 5)}
	out = append(out, mixed(125, 60)...)
	for _, f := range wrong() {
		out = append(out, faces{f}, append(of(2, 1, 4, 1), f))
	}
	return out
}

// R3: no call changes the interfaces or what lies behind these, and none looks there.
func TestArgumentsDoNotChange(t *testing.T) {
	for _, l := range some() {
		whole := append(slices.Clone(l), of(2, 1, 3, 3, 0, 0, 200, 200)...)
		before := slices.Clone(whole)
		if a, b := calls(t, whole[:len(l)]), calls(t, slices.Clone(l)); a != b {
			t.Errorf("%v with others behind: %+v, want %+v", l, a, b)
		}
		if !slices.Equal(whole, before) {
			t.Errorf("a call changed its arguments: %v to %v", before, whole)
		}
	}
}

// R3, R4: no call keeps what it is given: after other calls, and after a change in the same memory, the results are those of new memory.
func TestNothingIsKept(t *testing.T) {
	all, memory := some(), make(faces, 8)
	for n, l := range all {
		want := calls(t, l)
		calls(t, all[(n+1)%len(all)])
		given := memory[:copy(memory, l)]
		for range 2 {
			check(t, given, want)
		}
		clear(memory)
		if got := calls(t, l); got != want {
			t.Errorf("%v: %+v, and before %+v", l, got, want)
		}
	}
}

// R3: a layout is new memory, spare capacity included: a change in it changes no other one.
func TestLayoutsAreNewMemory(t *testing.T) {
	var kept [][]int
	for _, l := range some() {
		first, err := synth.Lay(l)
		want := text(first)
		second, secondErr := synth.Lay(l)
		for _, ticks := range append(kept, first) {
			for i := range ticks[:cap(ticks)] {
				ticks[:cap(ticks)][i] = 9
			}
		}
		if text(second) != want || secondErr != err {
			t.Errorf("Lay(%v): %s, %d, and after a change in other layouts %s, %d", l, want, err, text(second), secondErr)
		}
		third, thirdErr := synth.Lay(l)
		if text(third) != want || thirdErr != err {
			t.Errorf("Lay(%v): %s, %d, and then %s, %d", l, want, err, text(third), thirdErr)
		}
		kept = append(kept, second, third)
	}
}

// R3: a nil list and an empty one are the same.
func TestNoListAndAnEmptyOne(t *testing.T) {
	want, _ := model(nil)
	for _, l := range []faces{nil, {}, make(faces, 0, 9), of(2, 1, 3, 1)[:0], of(2, 1, 3, 1)[2:], wrong()[:0]} {
		check(t, l, want)
	}
}

// R1: any structs, the ends of int, and long lists.
func TestEveryCallReturns(t *testing.T) {
	ends := []int{math.MinInt, -201, -1, 0, 1, 2, 200, 201, 240, api.MaxNum, math.MaxInt}
	for _, p := range ends {
		for _, b := range ends {
			for _, l := range []faces{of(p, b), of(b, p), of(2, 1, p, b), of(p, b, 3, 1), of(p, b, b, p), of(2, 1, p, b, 4, 1, b, p), of(p, b, p, b, p, b, p, b), of(p, b, p, b, p, b, p, b, p, b)} {
				want, _ := model(l)
				check(t, l, want)
			}
		}
	}
	check(t, make(faces, 1<<20), failed(api.ErrArg))
	check(t, slices.Repeat(of(2, 1), 1<<20), failed(api.ErrArg))
}
