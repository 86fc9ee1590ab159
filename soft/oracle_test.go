package soft

import (
	"math"
	"math/big"
	"math/rand"

	"tutor/api"
)

// Two oracles: the document's words in exact fractions, slow and independent of any floating-point unit; and the machine's own 32-bit numbers, fast enough for many.

// edges are patterns without a sign around which something changes.
var edges = []uint32{
	0, 1, 2, 3, 0x003fffff, 0x00400000, 0x007ffffe, 0x007fffff,
	0x00800000, 0x00800001, 0x00ffffff, 0x01000000, 0x01000001, 0x1fffffff, 0x20000000, 0x20000001,
	0x337fffff, 0x33800000, 0x33800001, 0x34000000, 0x3effffff, 0x3f000000, 0x3f000001, 0x3f7fffff,
	0x3f800000, 0x3f800001, 0x3fc00000, 0x3fffffff, 0x40000000, 0x40200000, 0x40400000, 0x40490fdb,
	0x4b000000, 0x4b000001, 0x4b7fffff, 0x4b800000, 0x4b800001, 0x4effffff, 0x4f000000, 0x4f000001,
	0x5f7fffff, 0x5f800000, 0x72ffffff, 0x73000000, 0x73000001, 0x7effffff, 0x7f000000, 0x7f7ffffe,
	0x7f7fffff, 0x7f800000, 0x7f800001, 0x7fbfffff, 0x7fc00000, 0x7fc00001, 0x7fffffff,
}

// bothSigns is every edge with the sign 0 and with the sign 1.
func bothSigns() []uint32 {
	var l []uint32
	for _, e := range edges {
		l = append(l, e, e|0x80000000)
	}
	return l
}

// plain: neither infinite nor no number.
func plain(a uint32) bool { return a>>23&255 != 255 }

func negative(a uint32) bool { return a>>31 == 1 }

// exact is a pattern's value without its sign, by the document's words. (For 0x7f800000 it is 2^128, which is what the rounding takes its place for.)
func exact(a uint32) *big.Rat {
	e, f := int(a>>23&255), int64(a&0x7fffff)
	if e == 0 {
		e = 1
	} else {
		f += 1 << 23
	}
	v := new(big.Int).Lsh(big.NewInt(f), uint(e))
	return new(big.Rat).SetFrac(v, new(big.Int).Lsh(big.NewInt(1), 150))
}

// signed is a pattern's value.
func signed(a uint32) *big.Rat {
	v := exact(a)
	if negative(a) {
		v.Neg(v)
	}
	return v
}

// nearest is the pattern nearest to what above compares with: above(x) tells whether x is above the wanted value (1), is it (0), or is below it (-1). The value is not below 0.
func nearest(above func(x *big.Rat) int) uint32 {
	low, high := uint32(0), uint32(0x7f800000)
	for low+1 < high {
		mid := low + (high-low)/2
		if above(exact(mid)) > 0 {
			high = mid
		} else {
			low = mid
		}
	}
	middle := new(big.Rat).Add(exact(low), exact(high))
	middle.Mul(middle, big.NewRat(1, 2))
	switch c := above(middle); {
	case c > 0:
		return low
	case c < 0:
		return high
	}
	return low + low&1
}

// nearestTo is the pattern nearest to a value, with the sign told (of which the value has nothing but, maybe, its own).
func nearestTo(v *big.Rat, sign bool) uint32 {
	size := new(big.Rat).Abs(v)
	p := nearest(func(x *big.Rat) int { return x.Cmp(size) })
	if sign {
		p |= 0x80000000
	}
	return p
}

// nearestRoot is the pattern nearest to the root of a value.
func nearestRoot(v *big.Rat) uint32 {
	return nearest(func(x *big.Rat) int { return new(big.Rat).Mul(x, x).Cmp(v) })
}

// number is a pattern as the machine's own number.
func number(p uint32) float32 { return math.Float32frombits(p) }

// pattern is the machine's own number as a pattern.
func pattern(v float32) uint32 {
	if v != v {
		return api.Quiet
	}
	return math.Float32bits(v)
}

// The conversions keep the machine from fusing two steps into one.

func plus(a, b float32) float32  { return float32(a + b) }
func minus(a, b float32) float32 { return float32(a - b) }
func times(a, b float32) float32 { return float32(a * b) }
func over(a, b float32) float32  { return float32(a / b) }

// anyPattern is a pattern of some kind: an edge, one with E 0 or near it, one near 1, one with few bits, or just any.
func anyPattern(r *rand.Rand) uint32 {
	sign := uint32(r.Intn(2)) << 31
	switch r.Intn(6) {
	case 0:
		return sign | edges[r.Intn(len(edges))]
	case 1:
		return sign | uint32(r.Intn(1<<25))
	case 2:
		return sign | uint32(115+r.Intn(40))<<23 | uint32(r.Intn(1<<23))
	case 3:
		return sign | uint32(r.Intn(255))<<23 | uint32(r.Intn(8))<<20 | uint32(r.Intn(8))
	}
	return r.Uint32()
}

// anyPair is two patterns, at times near each other without their signs, so that sums cancel.
func anyPair(r *rand.Rand) (uint32, uint32) {
	a := anyPattern(r)
	if r.Intn(3) == 0 {
		return a, a ^ uint32(r.Intn(2))<<31 ^ uint32(r.Intn(1<<r.Intn(30)))
	}
	return a, anyPattern(r)
}
