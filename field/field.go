// Package field counts with the numbers of three primes.
package field

import (
	"math/bits"

	"bracken/api"
)

// Known tells whether p is one of the primes.
func Known(p uint64) bool {
	return p == api.P0 || p == api.P1 || p == api.P2
}

// In tells whether all of l are numbers of p; of none that is so, if p is known.
func In(p uint64, l ...uint64) bool {
	if !Known(p) {
		return false
	}
	for _, a := range l {
		if a >= p {
			return false
		}
	}
	return true
}

// Add is the sum of a and b by p.
func Add(p, a, b uint64) uint64 {
	if !Known(p) {
		return 0
	}
	a, b = a%p, b%p
	// By P0 the plain sum may go beyond 64 bits: what b lacks to p never does.
	lack := p - b
	if a >= lack {
		return a - lack
	}
	return a + b
}

// Sub is the difference of a and b by p.
func Sub(p, a, b uint64) uint64 {
	if !Known(p) {
		return 0
	}
	a, b = a%p, b%p
	if a < b {
		return p - (b - a)
	}
	return a - b
}

// Mul is the product of a and b by p.
func Mul(p, a, b uint64) uint64 {
	if !Known(p) {
		return 0
	}
	high, low := bits.Mul64(a%p, b%p)
	return bits.Rem64(high, low, p)
}

// Neg is what a lacks to 0 by p.
func Neg(p, a uint64) uint64 {
	return Sub(p, 0, a)
}

// Reduce is what is left over of a by p.
func Reduce(p, a uint64) uint64 {
	if !Known(p) {
		return 0
	}
	return a % p
}
