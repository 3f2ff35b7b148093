// Package arith does arithmetic that reports when a number is too large.
package arith

import "remontoir/api"

// The permitted numbers go from lowest to highest, both included.
const (
	lowest  = -api.MaxNum
	highest = api.MaxNum
)

// permitted reports whether all the numbers are permitted.
func permitted(numbers ...int) bool {
	for _, n := range numbers {
		if n < lowest || n > highest {
			return false
		}
	}
	return true
}

// Add returns the sum of a and b.
func Add(a, b int) (int, api.Errno) {
	if !permitted(a, b) {
		return 0, api.ErrArg
	}
	// Two permitted numbers have a sum of less than 2^63: it cannot wrap round ahead of the check.
	sum := a + b
	if !permitted(sum) {
		return 0, api.ErrLarge
	}
	return sum, api.OK
}

// Mul returns the product of a and b.
func Mul(a, b int) (int, api.Errno) {
	if !permitted(a, b) {
		return 0, api.ErrArg
	}
	product := a * b
	if wrapped(product, a, b) || !permitted(product) {
		return 0, api.ErrLarge
	}
	return product, api.OK
}

// wrapped reports whether product, computed as a * b from permitted numbers, lost its upper bits.
// What is lost is a multiple of 2^64, more than any permitted b, so the division cannot give a back.
func wrapped(product, a, b int) bool {
	return b != 0 && product/b != a
}

// Floor returns the greatest integer that is not above a divided by b.
func Floor(a, b int) (int, api.Errno) {
	if !permitted(a, b) || b < 1 {
		return 0, api.ErrArg
	}
	quotient := a / b
	// The language rounds towards 0, which is up for a number below 0.
	if a%b < 0 {
		quotient--
	}
	return quotient, api.OK
}

// Ceil returns the smallest integer that is not below a divided by b.
func Ceil(a, b int) (int, api.Errno) {
	if !permitted(a, b) || b < 1 {
		return 0, api.ErrArg
	}
	quotient := a / b
	// The language rounds towards 0, which is down for a number above 0.
	if a%b > 0 {
		quotient++
	}
	return quotient, api.OK
}

// Gcd returns the greatest number that divides both a and b; 0, if both are 0.
func Gcd(a, b int) (int, api.Errno) {
	if !permitted(a, b) || a < 0 || b < 0 {
		return 0, api.ErrArg
	}
	return divisor(a, b), api.OK
}

// divisor returns the greatest common divisor of two numbers that are not below 0, by Euclid's rule.
func divisor(a, b int) int {
	for b != 0 {
		a, b = b, a%b
	}
	return a
}

// Lcm returns the smallest number from 1 on that both a and b divide.
func Lcm(a, b int) (int, api.Errno) {
	if !permitted(a, b) || a < 1 || b < 1 {
		return 0, api.ErrArg
	}
	// a times b may be too large where the multiple is not, so the division comes first.
	return Mul(a/divisor(a, b), b)
}
