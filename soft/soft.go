// Package soft: 32-bit floating-point numbers, on whole numbers: see DOC.md.
package soft

import (
	"math/bits"

	"tutor/api"
)

// Add adds (P2).
func Add(a uint32, b uint32) uint32 {
	switch {
	case isNoNumber(a) || isNoNumber(b):
		return api.Quiet
	case isInfinite(a) && b == turned(a):
		return api.Quiet
	case isInfinite(a):
		return a
	case isInfinite(b):
		return b
	}
	return sum(a, b)
}

// sum adds two numbers that are not infinite.
func sum(a uint32, b uint32) uint32 {
	if size(a) < size(b) {
		a, b = b, a
	}
	m, power := parts(a)
	n, below := parts(b)
	gap := power - below
	if gap > 32 {
		// b is far less than a quarter of a's last bit: no pattern is nearer than a itself.
		return a
	}
	m <<= gap
	sign := a & signBit
	switch {
	case sign == b&signBit:
		return rounded(sign, m+n, power-gap)
	case m == n:
		return 0
	}
	return rounded(sign, m-n, power-gap)
}

// Sub takes away (P2).
func Sub(a uint32, b uint32) uint32 { return Add(a, turned(b)) }

// Mul multiplies (P3).
func Mul(a uint32, b uint32) uint32 {
	sign := (a ^ b) & signBit
	switch {
	case isNoNumber(a) || isNoNumber(b):
		return api.Quiet
	case isInfinite(a) && isNought(b) || isNought(a) && isInfinite(b):
		return api.Quiet
	case isInfinite(a) || isInfinite(b):
		return sign | infinite
	}
	m, power := parts(a)
	n, more := parts(b)
	return rounded(sign, m*n, power+more)
}

// Div divides (P3).
func Div(a uint32, b uint32) uint32 {
	sign := (a ^ b) & signBit
	switch {
	case isNoNumber(a) || isNoNumber(b):
		return api.Quiet
	case isInfinite(a) && isInfinite(b) || isNought(a) && isNought(b):
		return api.Quiet
	case isInfinite(a) || isNought(b):
		return sign | infinite
	case isInfinite(b) || isNought(a):
		return sign
	}
	return quotient(sign, a, b)
}

// quotient divides two numbers that are neither noughts nor infinite.
func quotient(sign uint32, a uint32, b uint32) uint32 {
	m, power := parts(a)
	n, less := parts(b)
	// With 64 bits over at most 24 the quotient has at least 40.
	up := bits.LeadingZeros64(m)
	m <<= up
	return rounded(sign, m/n|sticky(m%n), power-up-less)
}

// Sqrt takes the root (P3).
func Sqrt(a uint32) uint32 {
	switch {
	case isNought(a):
		return a
	case isNoNumber(a) || a&signBit != 0:
		return api.Quiet
	case isInfinite(a):
		return a
	}
	m, power := parts(a)
	// With at least 63 bits the root has 32; the power must be even to be halved.
	up := bits.LeadingZeros64(m)
	if (power-up)%2 != 0 {
		up--
	}
	m <<= up
	r := root(m)
	return rounded(0, r|sticky(m-r*r), (power-up)/2)
}

// Less compares (P4).
func Less(a uint32, b uint32) bool {
	if isNoNumber(a) || isNoNumber(b) {
		return false
	}
	return place(a) < place(b)
}

// place is where a number stands among all of them, the noughts at 0.
func place(a uint32) int {
	if a&signBit != 0 {
		return -int(size(a))
	}
	return int(a)
}

// FromInt makes a number of a whole one (P4).
func FromInt(n int) uint32 {
	if n < 0 {
		// Turned as a uint64, since the least int has no int of the other sign.
		return rounded(signBit, -uint64(n), 0)
	}
	return rounded(0, uint64(n), 0)
}

// ToInt is the nearest whole number (P4).
func ToInt(a uint32) int {
	if isNoNumber(a) {
		return 0
	}
	n := whole(a)
	if a&signBit != 0 {
		return -n
	}
	return n
}

// whole is the whole number nearest to a number without its sign, at most 2^31.
func whole(a uint32) int {
	const most = 1 << 31
	m, power := parts(a)
	if power < 0 {
		return int(shifted(m, -power))
	}
	// m has 24 bits here, so that 8 more come to 2^31 at least: a greater power (an infinite one's too) changes nothing.
	return int(min(m<<min(power, 8), most))
}
