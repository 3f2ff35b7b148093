package image_test

import (
	"bytes"
	"math/rand"
	"slices"
	"testing"

	"remontoir/api"
	"remontoir/image"
)

// An answer is all that Decode returns.
type answer struct {
	c   config
	at  int
	err api.Errno
}

// decode calls the program.
func decode(b []byte) (a answer) {
	a.c, a.at, a.err = image.Decode(b)
	return a
}

// equal reports whether two answers are the same.
func (a answer) equal(b answer) bool {
	return slices.Equal(flat(a.c), flat(b.c)) && a.at == b.at && a.err == b.err
}

// failed returns the answer beside an error.
func failed(at int, err api.Errno) answer {
	return answer{at: at, err: err}
}

// inOrder says for each thing that is encoded which ones follow one another in it; what is not here is a number.
var inOrder = map[string][]string{
	"part": {"P", "B", "tasks"},
	"task": {"C", "D", "T", "secs"},
	"sec":  {"Res", "At", "Len"},
	"port": {"From", "To", "Cap"},
}

// eachOf says for each number of items what these are.
var eachOf = map[string]string{"parts": "part", "tasks": "task", "secs": "sec", "ports": "port"}

// last returns the last item of a list.
func last[E any](l []E) *E {
	return &l[len(l)-1]
}

// begin adds a thing without numbers to a system, in the last one of those that may have it.
func begin(c *config, thing string) {
	switch thing {
	case "part":
		c.Parts = append(c.Parts, api.Part{})
	case "task":
		p := last(c.Parts)
		p.Tasks = append(p.Tasks, api.Task{})
	case "sec":
		t := last(last(c.Parts).Tasks)
		t.Secs = append(t.Secs, api.Sec{})
	default:
		c.Ports = append(c.Ports, api.Port{})
	}
}

// place returns where a number is of the last thing of a system that has such a one.
func place(c *config, number string) *int {
	switch number {
	case "P":
		return &last(c.Parts).Face.P
	case "B":
		return &last(c.Parts).Face.B
	case "C":
		return &last(last(c.Parts).Tasks).C
	case "D":
		return &last(last(c.Parts).Tasks).D
	case "T":
		return &last(last(c.Parts).Tasks).T
	case "Res":
		return &last(last(last(c.Parts).Tasks).Secs).Res
	case "At":
		return &last(last(last(c.Parts).Tasks).Secs).At
	case "Len":
		return &last(last(last(c.Parts).Tasks).Secs).Len
	case "From":
		return &last(c.Ports).From
	case "To":
		return &last(c.Ports).To
	}
	return &last(c.Ports).Cap
}

// modelDecode is the document's word: it keeps a list of what is still to be read, of which the last one comes next.
func modelDecode(b []byte) answer {
	for i, want := range []byte{0x54, 0x4b, 0x31} {
		if len(b) == i {
			return failed(len(b), api.ErrMore)
		}
		if b[i] != want {
			return failed(i, api.ErrForm)
		}
	}
	var c config
	at := 3
	for todo := []string{"ports", "parts"}; len(todo) > 0; {
		next := *last(todo)
		todo = todo[:len(todo)-1]
		if l := inOrder[next]; l != nil {
			begin(&c, next)
			for i := range l {
				todo = append(todo, l[len(l)-1-i])
			}
			continue
		}
		if at == len(b) {
			return failed(len(b), api.ErrMore)
		}
		n := int(b[at])
		at++
		if item := eachOf[next]; item != "" {
			todo = append(todo, slices.Repeat([]string{item}, n)...)
			continue
		}
		*place(&c, next) = n
	}
	switch {
	case at < len(b):
		return failed(at, api.ErrForm)
	case !modelRight(c):
		return failed(0, api.ErrArg)
	}
	return answer{c: c}
}

// checkDecode holds Decode against the document's words, and Encode of what is decoded (P19.3).
func checkDecode(t *testing.T, b []byte) answer {
	t.Helper()
	got, want := decode(b), modelDecode(b)
	if !got.equal(want) {
		t.Fatalf("Decode of %x: %+v, want %+v", b, got, want)
	}
	if got.err != api.OK {
		return got
	}
	if again, err := image.Encode(got.c); err != api.OK || !bytes.Equal(again, b) {
		t.Fatalf("Encode of Decode of %x: %x, %d", b, again, err)
	}
	return got
}

// told checks which error Decode returns, and with which place.
func told(t *testing.T, b []byte, at int, err api.Errno) {
	t.Helper()
	if got := checkDecode(t, b); got.err != err || got.at != at {
		t.Errorf("Decode of %x: %+v, want %d, %d", b, got, at, err)
	}
}

// encoded returns the encoding of a system, or what would be that of one that is not valid.
func encoded(c config) []byte {
	return modelBytes(c)
}

// with returns bytes, followed by others.
func with(b []byte, more ...byte) []byte {
	return slices.Concat(b, more)
}

// anyTask returns a valid task by chance.
func anyTask(r *rand.Rand) api.Task {
	for {
		t := api.Task{T: 1 + r.Intn(200)}
		t.D = 1 + r.Intn(t.T)
		t.C = 1 + r.Intn(t.D)
		at := 0
		for range r.Intn(5) {
			at += r.Intn(t.C + 1)
			t.Secs = append(t.Secs, api.Sec{Res: r.Intn(4), At: at, Len: 1 + r.Intn(t.C)})
		}
		if modelTask(t) {
			return t
		}
	}
}

// anySystem returns a valid system by chance.
func anySystem(r *rand.Rand) config {
	var c config
	for range r.Intn(5) {
		p := api.Part{Face: api.Face{P: 1 + r.Intn(200)}}
		p.Face.B = 1 + r.Intn(p.Face.P)
		for range r.Intn(9) {
			p.Tasks = append(p.Tasks, anyTask(r))
		}
		c.Parts = append(c.Parts, p)
	}
	if n := len(c.Parts); n > 1 {
		for range r.Intn(5) {
			from := r.Intn(n)
			c.Ports = append(c.Ports, api.Port{From: from, To: (from + 1 + r.Intn(n-1)) % n, Cap: 1 + r.Intn(4)})
		}
	}
	return c
}

// systems returns valid systems.
func systems() []config {
	return []config{{}, some(), full(), bare(1), bare(4), faced(200, 200), one(api.Task{C: 1, D: 1, T: 1}), bare(2, api.Port{From: 1, To: 0, Cap: 4}), one(api.Task{C: 9, D: 9, T: 9, Secs: nested()}, api.Task{C: 1, D: 1, T: 200})}
}

// wrongs returns systems that are not valid, but whose numbers fit in bytes.
func wrongs() []config {
	out := []config{bare(5), bare(255), bare(0, api.Port{From: 0, To: 1, Cap: 1}), bare(2, slices.Repeat(ports{{From: 1, To: 0, Cap: 1}}, 5)...), bare(2, make(ports, 255)...), {Parts: make(parts, 1)}, {Parts: make(parts, 255), Ports: make(ports, 255)}, faced(201, 1), faced(255, 255), faced(1, 2), one(make(tasks, 1)...), one(make(tasks, 255)...), one(slices.Repeat(tasks{{C: 1, D: 1, T: 1}}, 9)...), one(api.Task{C: 9, D: 9, T: 9, Secs: make(secs, 255)}), one(api.Task{C: 9, D: 9, T: 9, Secs: append(nested(), nested()[3])})}
	for _, c := range []config{some(), full()} {
		for n := range 4 {
			d := copied(c)
			*places(d)[n*(len(places(d))-1)/3] = []int{255, 0}[n%2]
			if modelRight(d) {
				*places(d)[n*(len(places(d))-1)/3] = 201
			}
			out = append(out, d)
		}
	}
	return out
}

// P19.2: all short lists of bytes behind the first three, of small numbers.
func TestDecodeOfAllShortBytes(t *testing.T) {
	counts := map[api.Errno]int{}
	var walk func(b []byte, n int)
	walk = func(b []byte, n int) {
		got := checkDecode(t, b)
		counts[got.err]++
		if n == 0 || got.err == api.ErrForm {
			return
		}
		for x := range byte(4) {
			walk(append(b, x), n-1)
		}
	}
	walk([]byte("TK1"), 9)
	walk([]byte("TK1\x01\x01\x01\x01\x01\x01\x01\x01"), 6)
	walk([]byte("TK1\x02\x02\x01\x00\x03\x03\x00"), 6)
	for _, err := range []api.Errno{api.ErrMore, api.ErrForm, api.ErrArg} {
		if counts[err] < 1000 {
			t.Errorf("too few of a kind: %v", counts)
		}
	}
	if counts[api.OK] < 70 {
		t.Errorf("too few systems: %v", counts)
	}
}

// P19.2: each byte in each place of an encoding.
func TestDecodeOfOneByteChanged(t *testing.T) {
	counts := map[api.Errno]int{}
	for _, c := range append(systems(), bare(5), faced(1, 2)) {
		b := encoded(c)
		for i := range b {
			if i > 60 && i < len(b)-20 && i%29 > 0 {
				continue
			}
			d := bytes.Clone(b)
			for x := range 256 {
				d[i] = byte(x)
				counts[checkDecode(t, d).err]++
			}
		}
	}
	for _, err := range []api.Errno{api.OK, api.ErrMore, api.ErrForm, api.ErrArg} {
		if counts[err] < 1000 {
			t.Errorf("too few of a kind: %v", counts)
		}
	}
}

// P19.2: several bytes of an encoding changed, missing, or added.
func TestDecodeByChance(t *testing.T) {
	r := rand.New(rand.NewSource(21))
	counts := map[api.Errno]int{}
	for n := range 40000 {
		b := encoded(anySystem(r))
		for range r.Intn(3) {
			i := r.Intn(len(b))
			if n%8 > 0 {
				i = 3 + r.Intn(len(b)-3)
			}
			switch r.Intn(4) {
			case 0:
				b[i] = byte(r.Intn(256))
			case 1:
				b[i] += byte(r.Intn(3)) - 1
			case 2:
				b = slices.Insert(b, i, byte(r.Intn(6)))
			default:
				b = slices.Delete(b, i, i+1)
			}
			if len(b) < 5 {
				break
			}
		}
		counts[checkDecode(t, b).err]++
	}
	for range 20000 {
		b := make([]byte, r.Intn(30))
		for i := range b {
			b[i] = byte(r.Intn(256) >> r.Intn(9))
		}
		checkDecode(t, b)
		counts[checkDecode(t, slices.Concat([]byte("TK1"), b)).err]++
	}
	for _, err := range []api.Errno{api.OK, api.ErrMore, api.ErrForm, api.ErrArg} {
		if counts[err] < 1000 {
			t.Errorf("too few of a kind: %v", counts)
		}
	}
}

// P19.2: each wrong byte in each of the first three places, whatever follows, also where the bytes end too early behind it.
func TestDecodeOfWrongFirstBytes(t *testing.T) {
	for _, whole := range [][]byte{encoded(config{}), encoded(some()), encoded(bare(5)), with(encoded(some()), 0), []byte("TK1\xff\xff")} {
		for i := range 3 {
			for x := range 256 {
				b := bytes.Clone(whole)
				if b[i] == byte(x) {
					continue
				}
				b[i] = byte(x)
				told(t, b, i, api.ErrForm)
				for n := i + 1; n < len(b) && n < 12; n++ {
					told(t, b[:n], i, api.ErrForm)
				}
				for n := range i + 1 {
					told(t, b[:n], n, api.ErrMore)
				}
				// Of two that are wrong it is the first one.
				for j := i + 1; j < 3; j++ {
					b[j] = byte(x)
					told(t, b, i, api.ErrForm)
					told(t, b[:j+1], i, api.ErrForm)
				}
			}
		}
	}
	for _, x := range []string{"tK1", "Tk1", "TK2", "KT1", "T1K", "1KT", "\xef\xbb\xbfTK1", " TK1", "TK\x01", "TK\x00", "\x00\x00\x00"} {
		for i := range 3 {
			if x[i] != "TK1"[i] {
				told(t, []byte(x), i, api.ErrForm)
				told(t, []byte(x+"\x00\x00"), i, api.ErrForm)
				break
			}
		}
	}
}

// P19.2, P19.4: bytes that end after each of their places, of systems that are valid and of such as are not.
func TestDecodeOfBytesThatEndTooEarly(t *testing.T) {
	told(t, nil, 0, api.ErrMore)
	told(t, []byte{}, 0, api.ErrMore)
	for _, c := range append(systems(), wrongs()...) {
		b := encoded(c)
		for n := range b {
			if n > 300 && n < len(b)-20 && n%17 > 0 {
				continue
			}
			told(t, b[:n], n, api.ErrMore)
			told(t, bytes.Clone(b[:n]), n, api.ErrMore)
		}
	}
	r := rand.New(rand.NewSource(22))
	for range 300 {
		b := encoded(anySystem(r))
		for n := range b {
			told(t, b[:n], n, api.ErrMore)
		}
	}
}

// P19.2, P19.4: one byte left, and several, behind systems that are valid and such as are not.
func TestDecodeOfBytesThatAreLeft(t *testing.T) {
	for _, c := range append(systems(), wrongs()...) {
		b := encoded(c)
		for x := range 256 {
			told(t, with(b, byte(x)), len(b), api.ErrForm)
		}
		for _, more := range [][]byte{{0, 0}, {1, 2, 3}, b, make([]byte, 300), bytes.Repeat([]byte{0xff}, 1000)} {
			told(t, with(b, more...), len(b), api.ErrForm)
		}
	}
	r := rand.New(rand.NewSource(23))
	for range 3000 {
		b := encoded(anySystem(r))
		more := make([]byte, 1+r.Intn(20))
		r.Read(more)
		told(t, with(b, more...), len(b), api.ErrForm)
	}
	long := with(encoded(some()), make([]byte, 1<<24)...)
	if got := decode(long); !got.equal(failed(len(encoded(some())), api.ErrForm)) {
		t.Errorf("Decode with many bytes left: %+v", got)
	}
}

// P19.2: what is read in full, but is not valid.
func TestDecodeOfWhatIsNotValid(t *testing.T) {
	for _, c := range wrongs() {
		if modelRight(c) {
			t.Fatalf("%+v is valid", c)
		}
		b := encoded(c)
		told(t, b, 0, api.ErrArg)
		told(t, with(b, 0), len(b), api.ErrForm)
		told(t, b[:len(b)-1], len(b)-1, api.ErrMore)
	}
	for _, c := range systems() {
		d, all := copied(c), places(c)
		for k, x := range places(d) {
			if k > 100 && k%7 > 0 {
				continue
			}
			for _, *x = range []int{0, 1, 5, 200, 201, 254, 255} {
				want := api.ErrArg
				if modelRight(d) {
					want = api.OK
				}
				told(t, encoded(d), 0, want)
			}
			*x = *all[k]
		}
	}
}

// P19.2: numbers of items of 255, which are all read before an error is told.
func TestDecodeOfLargeCounts(t *testing.T) {
	zeros := func(n int) []byte { return make([]byte, n) }
	for _, r := range []struct {
		head string
		size int // how many bytes follow these
	}{
		{"TK1\xff", 255*3 + 1},
		{"TK1\xff\x01\x01\x00", 254*3 + 1},
		{"TK1\x00\xff", 255 * 3},
		{"TK1\x01\x02\x01\xff", 255*4 + 1},
		{"TK1\x01\x02\x01\x01\x01\x01\x01\xff", 255*3 + 1},
		{"TK1\x01\x02\x01\xff\x01\x01\x01\xff", 255*3 + 254*4 + 1},
		{"TK1\xff\x02\x01\xff\x01\x01\x01\xff", 255*3 + 254*4 + 254*3 + 1},
		{"TK1\x02\x02\x01\x00\x02\x01\x00\xff", 255 * 3},
	} {
		whole := with([]byte(r.head), zeros(r.size)...)
		told(t, whole, 0, api.ErrArg)
		for _, more := range []int{1, 2, 255} {
			told(t, with(whole, zeros(more)...), len(whole), api.ErrForm)
		}
		for n := len(r.head) - 1; n < len(whole); n++ {
			if n < len(r.head)+20 || n > len(whole)-20 || n%11 == 0 {
				told(t, whole[:n], n, api.ErrMore)
			}
		}
	}
	for n := range 1000 {
		told(t, slices.Concat([]byte("TK1"), bytes.Repeat([]byte{255}, n)), n+3, api.ErrMore)
	}
}

// R1, P19.2: the most bytes that can be read: 255 of everything.
func TestDecodeOfTheMostBytes(t *testing.T) {
	all := func(head string, item []byte) []byte { return append([]byte(head), bytes.Repeat(item, 255)...) }
	item := all("\x01\x01\xff", all("\x01\x01\x01\xff", []byte{0, 0, 1}))
	b := append(all("TK1\xff", item), all("\xff", []byte{0, 1, 1})...)
	if got := decode(b); !got.equal(failed(0, api.ErrArg)) {
		t.Errorf("Decode of %d bytes: %d, %d", len(b), got.at, got.err)
	}
	for _, n := range []int{len(b) - 1, len(b) - 3*255 - 1, len(b) / 2} {
		if got := decode(b[:n]); !got.equal(failed(n, api.ErrMore)) {
			t.Errorf("Decode of %d of %d bytes: %d, %d", n, len(b), got.at, got.err)
		}
	}
	if got := decode(append(b, 0)); !got.equal(failed(len(b), api.ErrForm)) {
		t.Errorf("Decode of %d bytes and one left: %d, %d", len(b), got.at, got.err)
	}
}

// P19.3: systems by chance; check decodes what it encodes, and checkDecode encodes what it decodes.
func TestThereAndBack(t *testing.T) {
	r := rand.New(rand.NewSource(24))
	for range 5000 {
		c := anySystem(r)
		judged(t, c, true)
		if got := checkDecode(t, encoded(c)); !got.equal(answer{c: c}) {
			t.Fatalf("Decode of %+v: %+v", c, got)
		}
	}
	for _, c := range systems() {
		judged(t, c, true)
		for _, d := range variants(c) {
			if modelRight(d) {
				judged(t, d, true)
				checkDecode(t, encoded(d))
			}
		}
	}
}

// P19.3, P19.4: with the program alone: no encoding begins with another one, and two are equal only if their systems are.
func TestNoEncodingBeginsWithAnother(t *testing.T) {
	var all []config
	var images [][]byte
	for _, c := range systems() {
		for _, d := range variants(c) {
			if b, err := image.Encode(d); err == api.OK {
				all, images = append(all, d), append(images, b)
			}
		}
	}
	if len(all) < 100 {
		t.Errorf("only %d systems", len(all))
	}
	for i, a := range images {
		for j, b := range images {
			if same := image.Same(all[i], all[j]); bytes.HasPrefix(b, a) != same || bytes.Equal(a, b) != same {
				t.Fatalf("the encodings of %+v and %+v: %x, %x", all[i], all[j], a, b)
			}
		}
		for n := range 10 {
			if _, at, err := image.Decode(a[:len(a)*n/10]); err != api.ErrMore || at != len(a)*n/10 {
				t.Fatalf("Decode of %d bytes of %x: %d, %d", len(a)*n/10, a, at, err)
			}
			if _, at, err := image.Decode(append(slices.Clip(a), images[n]...)); err != api.ErrForm || at != len(a) {
				t.Fatalf("Decode of %x, followed by %x: %d, %d", a, images[n], at, err)
			}
		}
	}
}
