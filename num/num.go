// Package num is layer 1: numbers with a point, to their ends. See shared/doc/01-num.md.
package num

import (
	"cmp"
	"math"

	"cloisonne/api"
)

// In IEEE 754 the bits of numbers without a sign rise with the numbers, from nought's to infinity's: places are reckoned from them.
const (
	signBit  = 1 << 63
	infBits  = 0x7FF0000000000000
	nanBits  = 0x7FF8000000000001
	nilPlace = infBits + 1 // minus infinity to minus nought are one more than infBits
	nanPlace = nilPlace + infBits + 1
	keyBytes = 8
)

// Class tells of which kind x is: ClassNaN to ClassInf.
func Class(x float64) int {
	if math.IsNaN(x) {
		return api.ClassNaN
	}
	if math.Signbit(x) { // the classes below nought mirror those above
		return api.ClassMinusInf + api.ClassInf - upperClass(-x)
	}
	return upperClass(x)
}

// upperClass tells the class of a number without a sign that isn't the NaN.
func upperClass(x float64) int {
	const leastNormal = 0x1p-1022
	switch {
	case x == 0:
		return api.ClassNil
	case x < leastNormal:
		return api.ClassSub
	case x <= math.MaxFloat64:
		return api.ClassPlus
	}
	return api.ClassInf
}

// Bits tells the bits of x; all NaNs have the same ones.
func Bits(x float64) uint64 {
	if math.IsNaN(x) {
		return nanBits
	}
	return math.Float64bits(x)
}

// From tells the number of bits; the NaN, if they are any NaN's.
func From(bits uint64) float64 {
	x := math.Float64frombits(bits)
	if math.IsNaN(x) {
		return math.Float64frombits(nanBits)
	}
	return x
}

// Order tells whether a stands ahead of b (-1), is it (0), or stands behind it (1).
func Order(a, b float64) int {
	return cmp.Compare(Place(a), Place(b))
}

// Same tells whether a and b are one number: both noughts aren't, all NaNs are.
func Same(a, b float64) bool {
	return Bits(a) == Bits(b)
}

// Place tells where x stands in the order of numbers, from 0 on.
func Place(x float64) uint64 {
	bits := Bits(x)
	switch {
	case bits == nanBits:
		return nanPlace
	case bits >= signBit:
		return infBits - (bits - signBit)
	}
	return nilPlace + bits
}

// At tells the number that stands at a place; ErrArg, if none does.
func At(place uint64) (float64, api.Errno) {
	switch {
	case place > nanPlace:
		return 0, api.ErrArg
	case place == nanPlace:
		return From(nanBits), api.OK
	case place >= nilPlace:
		return From(place - nilPlace), api.OK
	}
	return From(signBit + (infBits - place)), api.OK
}

// Next tells the number that stands right behind x; ErrNone, if x is the NaN.
func Next(x float64) (float64, api.Errno) {
	next, err := At(Place(x) + 1)
	if err != api.OK {
		return 0, api.ErrNone
	}
	return next, api.OK
}

// Key tells the place of x in bytes, the highest first, so that keys stand in order just as numbers do.
func Key(x float64) string {
	place := Place(x)
	var key [keyBytes]byte
	for i := range key {
		key[keyBytes-1-i] = byte(place >> (8 * i))
	}
	return string(key[:])
}

// Unkey tells the number whose Key s is; ErrForm, if it is none's.
func Unkey(s string) (float64, api.Errno) {
	if len(s) != keyBytes {
		return 0, api.ErrForm
	}
	var place uint64
	for i := range keyBytes {
		place = place<<8 | uint64(s[i])
	}
	x, err := At(place)
	if err != api.OK {
		return 0, api.ErrForm
	}
	return x, api.OK
}

// Whole tells the whole number that x is; ErrArg, if it is none of 64 bits.
func Whole(x float64) (int64, api.Errno) {
	const end = 1 << 63 // 2^63 - 1 itself is no number with a point
	if math.Trunc(x) != x || x < -end || x >= end {
		return 0, api.ErrArg
	}
	return int64(x), api.OK
}
