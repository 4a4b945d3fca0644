// Package wide is layer 1: natural numbers of 128 and 256 bits: see shared/doc/01-wide.md.
package wide

import (
	"math/bits"

	"tariff/api"
)

const (
	maxTen   = 38 // 10^38 is the greatest power of ten that is a Wide
	maxRound = 76 // 10^76 is the greatest power of ten that is a Long
	wordTen  = 19 // 10^19 is the greatest power of ten that is a word
)

// tens are the powers of ten that are a word.
var tens = [wordTen + 1]uint64{
	1, 10, 100, 1000, 10000, 100000, 1000000, 10000000, 100000000, 1000000000,
	10000000000, 100000000000, 1000000000000, 10000000000000, 100000000000000,
	1000000000000000, 10000000000000000, 100000000000000000, 1000000000000000000,
	10000000000000000000,
}

// Cmp: -1, 0, 1: a is below, equal to, above b.
func Cmp(a, b api.Wide) int {
	return cmpLong(long(a), long(b))
}

// Add: a + b.
func Add(a, b api.Wide) (api.Wide, api.Errno) {
	lo, carry := bits.Add64(a.Lo, b.Lo, 0)
	hi, carry := bits.Add64(a.Hi, b.Hi, carry)
	if carry != 0 {
		return api.Wide{}, api.ErrOver
	}
	return api.Wide{Hi: hi, Lo: lo}, api.OK
}

// Sub: a - b.
func Sub(a, b api.Wide) (api.Wide, api.Errno) {
	rest, borrow := less(a, b)
	if borrow != 0 {
		return api.Wide{}, api.ErrOver
	}
	return rest, api.OK
}

// Mul: a * b.
func Mul(a, b api.Wide) api.Long {
	var n api.Long
	n[1], n[0] = bits.Mul64(a.Lo, b.Lo)
	n[3], n[2] = bits.Mul64(a.Hi, b.Hi)
	hi, lo := bits.Mul64(a.Hi, b.Lo)
	n = addLong(n, api.Long{0, lo, hi, 0})
	hi, lo = bits.Mul64(a.Lo, b.Hi)
	return addLong(n, api.Long{0, lo, hi, 0})
}

// Narrow: the same number.
func Narrow(n api.Long) (api.Wide, api.Errno) {
	if n[3] != 0 || n[2] != 0 {
		return api.Wide{}, api.ErrOver
	}
	return api.Wide{Hi: n[1], Lo: n[0]}, api.OK
}

// Ten: 10^k.
func Ten(k int) (api.Wide, api.Errno) {
	if k < 0 || k > maxTen {
		return api.Wide{}, api.ErrArg
	}
	return power(k), api.OK
}

// Digits: how many decimal digits it has.
func Digits(a api.Wide) int {
	k := 1
	for k <= maxTen && Cmp(power(k), a) <= 0 {
		k++
	}
	return k
}

// Trim: without the zeros at its end, and how many they are.
func Trim(a api.Wide) (api.Wide, int) {
	if a == (api.Wide{}) {
		return a, 0
	}
	k := 0
	for {
		q, digit := divWord(long(a), 10)
		if digit != 0 {
			return a, k
		}
		a = api.Wide{Hi: q[1], Lo: q[0]}
		k++
	}
}

// power is 10^k, for k from 0 to maxTen.
func power(k int) api.Wide {
	if k <= wordTen {
		return api.Wide{Lo: tens[k]}
	}
	hi, lo := bits.Mul64(tens[wordTen], tens[k-wordTen])
	return api.Wide{Hi: hi, Lo: lo}
}

// less is a - b modulo 2^128, and the borrow.
func less(a, b api.Wide) (api.Wide, uint64) {
	lo, borrow := bits.Sub64(a.Lo, b.Lo, 0)
	hi, borrow := bits.Sub64(a.Hi, b.Hi, borrow)
	return api.Wide{Hi: hi, Lo: lo}, borrow
}

// long is the same number as a Long.
func long(a api.Wide) api.Long {
	return api.Long{a.Lo, a.Hi, 0, 0}
}

// addLong is a + b, where the sum is known to be a Long.
func addLong(a, b api.Long) api.Long {
	var sum api.Long
	var carry uint64
	for i := range sum {
		sum[i], carry = bits.Add64(a[i], b[i], carry)
	}
	return sum
}

// cmpLong is -1, 0 or 1: a is below, equal to, above b.
func cmpLong(a, b api.Long) int {
	for i := len(a) - 1; i >= 0; i-- {
		if a[i] < b[i] {
			return -1
		}
		if a[i] > b[i] {
			return 1
		}
	}
	return 0
}
