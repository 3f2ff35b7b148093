package arith_test

import (
	"math"
	"math/big"
	"testing"

	"remontoir/api"
	"remontoir/arith"
)

const most = api.MaxNum

type call func(a, b int) (int, api.Errno)

type row struct {
	a, b, want int
	err        api.Errno
}

type named struct {
	name     string
	do, want call
}

// calls pairs each call with what the document asks of it, worked out in numbers without a limit.
func calls() []named {
	return []named{
		{"Add", arith.Add, wantAdd},
		{"Mul", arith.Mul, wantMul},
		{"Floor", arith.Floor, wantFloor},
		{"Ceil", arith.Ceil, wantCeil},
		{"Gcd", arith.Gcd, wantGcd},
		{"Lcm", arith.Lcm, wantLcm},
	}
}

func check(t *testing.T, name string, do call, rows []row) {
	t.Helper()
	for _, r := range rows {
		if n, err := do(r.a, r.b); n != r.want || err != r.err {
			t.Errorf("%s(%d, %d): %d, %d, want %d, %d", name, r.a, r.b, n, err, r.want, r.err)
		}
	}
}

func must(t *testing.T, do call, a, b int) int {
	t.Helper()
	n, err := do(a, b)
	if err != api.OK {
		t.Fatalf("%d, %d: error %d", a, b, err)
	}
	return n
}

// numbers returns the neighbours of all powers of two on both sides of 0, and so the edges that the document names.
func numbers() []int {
	seen := map[int]int{}
	var list []int
	for k := range 64 {
		for _, step := range []int{-1, 0, 1} {
			n := 1<<k + step // wraps round for the last k, which gives the ends of int
			for _, m := range []int{n, -n} {
				if seen[m] == 0 {
					seen[m] = 1
					list = append(list, m)
				}
			}
		}
	}
	return append(list, 6, 10, 12, 18, 100, 360, -6, -10, -12, -18, -100, -360, most/3, -most/3, most-2, 2-most)
}

func isPermitted(n int) bool { return -most <= n && n <= most }

// fromBig returns n, or the error if it is too large.
func fromBig(n *big.Int) (int, api.Errno) {
	if new(big.Int).Abs(n).Cmp(big.NewInt(most)) > 0 {
		return 0, api.ErrLarge
	}
	return int(n.Int64()), api.OK
}

func bigs(a, b int) (*big.Int, *big.Int) {
	return big.NewInt(int64(a)), big.NewInt(int64(b))
}

func wantAdd(a, b int) (int, api.Errno) {
	if !isPermitted(a) || !isPermitted(b) {
		return 0, api.ErrArg
	}
	x, y := bigs(a, b)
	return fromBig(x.Add(x, y))
}

func wantMul(a, b int) (int, api.Errno) {
	if !isPermitted(a) || !isPermitted(b) {
		return 0, api.ErrArg
	}
	x, y := bigs(a, b)
	return fromBig(x.Mul(x, y))
}

func wantFloor(a, b int) (int, api.Errno) {
	if !isPermitted(a) || !isPermitted(b) || b < 1 {
		return 0, api.ErrArg
	}
	x, y := bigs(a, b)
	return fromBig(x.Div(x, y)) // Euclid's division, which is the floor for b above 0
}

func wantCeil(a, b int) (int, api.Errno) {
	if !isPermitted(a) || !isPermitted(b) || b < 1 {
		return 0, api.ErrArg
	}
	x, y := bigs(a, b)
	quotient, rest := x.DivMod(x, y, new(big.Int))
	if rest.Sign() != 0 {
		quotient.Add(quotient, big.NewInt(1))
	}
	return fromBig(quotient)
}

func wantGcd(a, b int) (int, api.Errno) {
	if !isPermitted(a) || !isPermitted(b) || a < 0 || b < 0 {
		return 0, api.ErrArg
	}
	x, y := bigs(a, b)
	return fromBig(new(big.Int).GCD(nil, nil, x, y))
}

func wantLcm(a, b int) (int, api.Errno) {
	if !isPermitted(a) || !isPermitted(b) || a < 1 || b < 1 {
		return 0, api.ErrArg
	}
	x, y := bigs(a, b)
	divisor := new(big.Int).GCD(nil, nil, x, y)
	return fromBig(x.Mul(x, y).Div(x, divisor))
}

// P0 (R1, R2, R4), P1.1, P1.2: every pair of edges, valid or not, gives what the document asks, each time.
func TestAllCallsAtAllEdges(t *testing.T) {
	list := numbers()
	for _, c := range calls() {
		t.Run(c.name, func(t *testing.T) {
			for _, a := range list {
				for _, b := range list {
					want, wantErr := c.want(a, b)
					check(t, c.name, c.do, []row{{a, b, want, wantErr}, {a, b, want, wantErr}})
				}
			}
		})
	}
}

// The first sentence of the promises: numbers that are not permitted, on either side, ahead of every other error.
func TestNumbersThatAreNotPermitted(t *testing.T) {
	for _, c := range calls() {
		for _, wrong := range []int{most + 1, -most - 1, math.MaxInt, math.MinInt} {
			for _, other := range []int{1, 0, -1, 2, most, -most, wrong} {
				check(t, c.name, c.do, []row{{wrong, other, 0, api.ErrArg}, {other, wrong, 0, api.ErrArg}})
			}
		}
	}
}

// P1.1
func TestAdd(t *testing.T) {
	check(t, "Add", arith.Add, []row{
		{0, 0, 0, api.OK},
		{2, 3, 5, api.OK},
		{-3, 5, 2, api.OK},
		{-3, -5, -8, api.OK},
		{most, 0, most, api.OK},
		{most - 1, 1, most, api.OK},
		{1 - most, -1, -most, api.OK},
		{most, -most, 0, api.OK},
		{most, 1, 0, api.ErrLarge},
		{-most, -1, 0, api.ErrLarge},
		{most, most, 0, api.ErrLarge},
		{-most, -most, 0, api.ErrLarge},
	})
}

// P1.1. The greatest permitted number is (2^31 - 1) * (2^31 + 1); the last rows have products that wrap round to permitted numbers.
func TestMul(t *testing.T) {
	check(t, "Mul", arith.Mul, []row{
		{0, 0, 0, api.OK},
		{6, 7, 42, api.OK},
		{-6, 7, -42, api.OK},
		{-6, -7, 42, api.OK},
		{most, 0, 0, api.OK},
		{0, -most, 0, api.OK},
		{most, 1, most, api.OK},
		{-most, -1, most, api.OK},
		{1<<31 - 1, 1<<31 + 1, most, api.OK},
		{1 - 1<<31, 1<<31 + 1, -most, api.OK},
		{1 << 31, 1 << 31, 0, api.ErrLarge},
		{-1 << 31, 1 << 31, 0, api.ErrLarge},
		{most, 2, 0, api.ErrLarge},
		{most, -2, 0, api.ErrLarge},
		{most, most, 0, api.ErrLarge},
		{-most, -most, 0, api.ErrLarge},
		{1 << 40, 1 << 40, 0, api.ErrLarge},
		{1 << 32, 1 << 32, 0, api.ErrLarge},
		{1<<32 + 1, 1 << 32, 0, api.ErrLarge},
		{5, 3689348814741910324, 0, api.ErrLarge},
		{-5, 3689348814741910324, 0, api.ErrLarge},
	})
}

// P1.1
func TestFloor(t *testing.T) {
	check(t, "Floor", arith.Floor, []row{
		{7, 2, 3, api.OK},
		{-7, 2, -4, api.OK},
		{8, 2, 4, api.OK},
		{-8, 2, -4, api.OK},
		{0, 5, 0, api.OK},
		{1, 5, 0, api.OK},
		{-1, 5, -1, api.OK},
		{most, 1, most, api.OK},
		{-most, 1, -most, api.OK},
		{most, most, 1, api.OK},
		{-most, most, -1, api.OK},
		{1 - most, most, -1, api.OK},
		{7, 0, 0, api.ErrArg},
		{0, 0, 0, api.ErrArg},
		{7, -2, 0, api.ErrArg},
		{-7, -1, 0, api.ErrArg},
		{7, -most, 0, api.ErrArg},
	})
}

// P1.1
func TestCeil(t *testing.T) {
	check(t, "Ceil", arith.Ceil, []row{
		{7, 2, 4, api.OK},
		{-7, 2, -3, api.OK},
		{8, 2, 4, api.OK},
		{-8, 2, -4, api.OK},
		{0, 5, 0, api.OK},
		{1, 5, 1, api.OK},
		{-1, 5, 0, api.OK},
		{most, 1, most, api.OK},
		{-most, 1, -most, api.OK},
		{most, most, 1, api.OK},
		{-most, most, -1, api.OK},
		{most - 1, most, 1, api.OK},
		{7, 0, 0, api.ErrArg},
		{0, 0, 0, api.ErrArg},
		{7, -2, 0, api.ErrArg},
		{-7, -1, 0, api.ErrArg},
		{7, -most, 0, api.ErrArg},
	})
}

// P1.2
func TestGcd(t *testing.T) {
	check(t, "Gcd", arith.Gcd, []row{
		{12, 18, 6, api.OK},
		{18, 12, 6, api.OK},
		{7, 5, 1, api.OK},
		{6, 6, 6, api.OK},
		{0, 0, 0, api.OK},
		{0, 9, 9, api.OK},
		{9, 0, 9, api.OK},
		{1, most, 1, api.OK},
		{0, most, most, api.OK},
		{most, most, most, api.OK},
		{most, most - 1, 1, api.OK},
		{most, 1<<31 + 1, 1<<31 + 1, api.OK},
		{-1, 2, 0, api.ErrArg},
		{2, -1, 0, api.ErrArg},
		{-1, 0, 0, api.ErrArg},
		{0, -1, 0, api.ErrArg},
		{-most, -most, 0, api.ErrArg},
	})
}

// P1.2
func TestLcm(t *testing.T) {
	check(t, "Lcm", arith.Lcm, []row{
		{4, 6, 12, api.OK},
		{6, 4, 12, api.OK},
		{7, 5, 35, api.OK},
		{1, 1, 1, api.OK},
		{6, 6, 6, api.OK},
		{1, most, most, api.OK},
		{most, most, most, api.OK},
		{most, 1<<31 + 1, most, api.OK},
		{1<<31 - 1, 1<<31 + 1, most, api.OK},
		{1 << 61, 1 << 60, 1 << 61, api.OK},
		{1 << 61, 3, 0, api.ErrLarge},
		{1 << 31, 1<<31 + 1, 0, api.ErrLarge},
		{most, 2, 0, api.ErrLarge},
		{most, most - 1, 0, api.ErrLarge},
		{0, 6, 0, api.ErrArg},
		{6, 0, 0, api.ErrArg},
		{0, 0, 0, api.ErrArg},
		{-4, 6, 0, api.ErrArg},
		{4, -6, 0, api.ErrArg},
		{-most, -most, 0, api.ErrArg},
	})
}

// P1.1, by its words: no greater integer is at most a divided by b, no smaller one at least that.
func TestRoundingByDefinition(t *testing.T) {
	for a := -60; a <= 60; a++ {
		for b := 1; b <= 25; b++ {
			floor := must(t, arith.Floor, a, b)
			if floor*b > a || (floor+1)*b <= a {
				t.Errorf("Floor(%d, %d): %d", a, b, floor)
			}
			ceil := must(t, arith.Ceil, a, b)
			if ceil*b < a || (ceil-1)*b >= a {
				t.Errorf("Ceil(%d, %d): %d", a, b, ceil)
			}
		}
	}
}

func greatestDivisorByTrial(a, b int) int {
	for n := max(a, b); n > 0; n-- {
		if a%n == 0 && b%n == 0 {
			return n
		}
	}
	return 0
}

func smallestMultipleByTrial(a, b int) int {
	n := 1
	for n%a != 0 || n%b != 0 {
		n++
	}
	return n
}

// P1.2, by its words: all candidates are tried.
func TestDivisorsByDefinition(t *testing.T) {
	for a := range 41 {
		for b := range 41 {
			if n, want := must(t, arith.Gcd, a, b), greatestDivisorByTrial(a, b); n != want {
				t.Errorf("Gcd(%d, %d): %d, want %d", a, b, n, want)
			}
			if a == 0 || b == 0 {
				continue
			}
			if n, want := must(t, arith.Lcm, a, b), smallestMultipleByTrial(a, b); n != want {
				t.Errorf("Lcm(%d, %d): %d, want %d", a, b, n, want)
			}
		}
	}
}

// P1.3
func TestOrderDoesNotMatter(t *testing.T) {
	list := numbers()
	for _, a := range list {
		for _, b := range list {
			sum, sumErr := arith.Add(a, b)
			product, productErr := arith.Mul(a, b)
			check(t, "Add", arith.Add, []row{{b, a, sum, sumErr}})
			check(t, "Mul", arith.Mul, []row{{b, a, product, productErr}})
		}
	}
}

// inOrder returns the result of do for the three numbers, from left to right, and whether no error came up.
func inOrder(do call, a, b, c int) (int, bool) {
	n, err := do(a, b)
	if err != api.OK {
		return 0, false
	}
	n, err = do(n, c)
	return n, err == api.OK
}

// P1.3, for more than two numbers: whichever two are taken first.
func TestGroupingDoesNotMatter(t *testing.T) {
	list := []int{-most, 1 - most, -1 << 31, -7, -1, 0, 1, 2, 5, 1 << 20, 1 << 31, most - 1, most}
	for _, do := range []call{arith.Add, arith.Mul} {
		for _, a := range list {
			for _, b := range list {
				for _, c := range list {
					left, leftOK := inOrder(do, a, b, c)
					right, rightOK := inOrder(do, b, c, a)
					if leftOK && rightOK && left != right {
						t.Errorf("%d, %d, %d: %d and %d", a, b, c, left, right)
					}
				}
			}
		}
	}
}

// P1.3
func TestCeilMirrorsFloor(t *testing.T) {
	list := numbers()
	for _, a := range list {
		for _, b := range list {
			floor, floorErr := arith.Floor(-a, b)
			check(t, "Ceil", arith.Ceil, []row{{a, b, -floor, floorErr}})
		}
	}
}

// P1.4
func TestGcdDividesBoth(t *testing.T) {
	list := numbers()
	for _, a := range list {
		for _, b := range list {
			n, err := arith.Gcd(a, b)
			if err != api.OK || a == 0 && b == 0 {
				continue
			}
			if n < 1 || a%n != 0 || b%n != 0 {
				t.Errorf("Gcd(%d, %d): %d", a, b, n)
			}
		}
	}
}

// P1.4. The product itself may be too large, so it is compared in numbers without a limit.
func TestGcdTimesLcmIsTheProduct(t *testing.T) {
	tried := 0
	list := numbers()
	for _, a := range list {
		for _, b := range list {
			multiple, err := arith.Lcm(a, b)
			if err != api.OK {
				continue
			}
			tried++
			x, y := bigs(a, b)
			d, m := bigs(must(t, arith.Gcd, a, b), multiple)
			if x.Mul(x, y).Cmp(d.Mul(d, m)) != 0 {
				t.Errorf("%d, %d: Gcd times Lcm is %v, the product %v", a, b, d, x)
			}
		}
	}
	if tried < 1000 {
		t.Errorf("only %d pairs have an Lcm", tried)
	}
}
