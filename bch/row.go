package bch

import (
	"casemate/gf"
	"casemate/poly"
)

// row is a word's sums: at the place i its value at w's power i + 1. If the word is a code word in which bits were flipped, each sum is that of as many powers, one of each flip.
type row struct{ sums []int }

// turn: the sums as they are when the word's bit at place is turned.
func (r *row) turn(place int) {
	for i := range r.sums {
		r.sums[i] ^= gf.Exp(place * (i + 1))
	}
}

// clean: are all of them 0, as a code word's are?
func (r *row) clean() bool {
	for _, s := range r.sums {
		if s != 0 {
			return false
		}
	}
	return true
}

// gap: by how much the sum at n differs from what a locator makes of those ahead of it. A locator is never longer than what is cut out here, as it has at most one factor for each sum that it fits.
func (r *row) gap(locator []int, n int) int {
	cut := r.sums[n+1-len(locator) : n+1 : n+1]
	out := 0
	for i, c := range locator {
		out ^= times(c, cut[len(cut)-1-i])
	}
	return out
}

// locator: the shortest polynomial with 1 at the place 0 that fits all sums, found sum by sum (Berlekamp's and Massey's way). If few enough bits were flipped, it is 0 at just the inverses of w's powers of their places.
func (r *row) locator() []int {
	now, before := []int{1}, []int{1}
	length := 0
	for n := range r.sums {
		before = product(before, 0, 1)
		gap := r.gap(now, n)
		if gap == 0 {
			continue
		}
		next, _ := poly.Add(now, product(before, gap))
		if 2*length <= n {
			inverse, _ := gf.Inv(gap)
			before = product(now, inverse)
			length = n + 1 - length
		}
		now = next
	}
	return now
}

// roots: the places below n, rising, at which a locator says that a bit was flipped. It has no more of them than its degree.
func roots(locator []int, n int) []int {
	var out []int
	step, x := gf.Exp(-1), 1
	for place := 0; place < n && len(out) < len(locator)-1; place++ {
		if value, _ := poly.Eval(locator, x); value == 0 {
			out = append(out, place)
		}
		x = times(x, step)
	}
	return out
}

// product: that of a polynomial and the one of these coefficients.
func product(p []int, coefficients ...int) []int {
	out, _ := poly.Mul(p, coefficients)
	return out
}

// times: the product of two elements.
func times(a int, b int) int {
	c, _ := gf.Mul(a, b)
	return c
}
