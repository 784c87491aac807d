package interval

import (
	"math"
	mathbits "math/bits"

	"jacquard/api"
	"jacquard/bits"
)

// corners returns the least and the greatest one of some numbers.
func corners(list ...int64) (lo, hi int64) {
	lo, hi = list[0], list[0]
	for _, x := range list[1:] {
		lo, hi = min(lo, x), max(hi, x)
	}
	return lo, hi
}

// sum bounds Add, Sub and Mul.
func sum(r *Range, op, w int, a, b Range) {
	var lo, hi int64
	fits := false
	switch op {
	case api.OpAdd:
		addUnsigned(r, w, a, b)
		x, ok1 := add(a.Least, b.Least)
		y, ok2 := add(a.Most, b.Most)
		lo, hi, fits = x, y, ok1 && ok2
	case api.OpSub:
		subUnsigned(r, w, a, b)
		x, ok1 := sub(a.Least, b.Most)
		y, ok2 := sub(a.Most, b.Least)
		lo, hi, fits = x, y, ok1 && ok2
	case api.OpMul:
		if high, low := mathbits.Mul64(a.Hi, b.Hi); high == 0 && low <= bits.Mask(w) {
			r.Lo, r.Hi = a.Lo*b.Lo, low
		}
		lo, hi, fits = products(a, b)
	}
	if fits && lo >= least(w) && hi <= most(w) {
		r.Least, r.Most = lo, hi
	}
}

func addUnsigned(r *Range, w int, a, b Range) {
	top := bits.Mask(w)
	lo, carryLo := mathbits.Add64(a.Lo, b.Lo, 0)
	hi, carryHi := mathbits.Add64(a.Hi, b.Hi, 0)
	switch {
	case carryHi == 0 && hi <= top:
		r.Lo, r.Hi = lo, hi
	case carryLo == 1 || lo > top:
		r.Lo, r.Hi = bits.Fit(w, lo), bits.Fit(w, hi)
	}
}

func subUnsigned(r *Range, w int, a, b Range) {
	if a.Lo >= b.Hi || a.Hi < b.Lo {
		r.Lo, r.Hi = bits.Fit(w, a.Lo-b.Hi), bits.Fit(w, a.Hi-b.Lo)
	}
}

// add returns x + y, and whether it has 64 bits.
func add(x, y int64) (int64, bool) {
	s := x + y
	return s, (s > x) == (y > 0)
}

// sub returns x - y, and whether it has 64 bits.
func sub(x, y int64) (int64, bool) {
	s := x - y
	return s, (s < x) == (y > 0)
}

// mul returns x * y, and whether it has 64 bits.
func mul(x, y int64) (int64, bool) {
	if x == 0 || y == 0 {
		return 0, true
	}
	p := x * y
	if x == -1 || y == -1 {
		return p, x != math.MinInt64 && y != math.MinInt64
	}
	return p, p/y == x
}

// products returns the least and the greatest product of bounds, and whether all of them have 64 bits.
func products(a, b Range) (lo, hi int64, ok bool) {
	var list [4]int64
	ok = true
	for i, x := range [2]int64{a.Least, a.Most} {
		for j, y := range [2]int64{b.Least, b.Most} {
			p, fits := mul(x, y)
			list[2*i+j] = p
			ok = ok && fits
		}
	}
	lo, hi = corners(list[:]...)
	return lo, hi, ok
}
