package soft

import "math/bits"

const (
	signBit      uint32 = 0x80000000
	fractionBits uint32 = 0x007fffff
	infinite     uint32 = 0x7f800000
	one          uint32 = 0x3f800000
	two          uint32 = 0x40000000
	half         uint32 = 0x3f000000
)

// leastPower is the power of 2 that the last bit of F stands for where E is 0 or 1: no pattern has a lesser one.
const leastPower = -149

// turned is a number with the other sign.
func turned(a uint32) uint32 { return a ^ signBit }

// size is a pattern without its sign; patterns without a sign rise as their values do.
func size(a uint32) uint32 { return a &^ signBit }

func isNoNumber(a uint32) bool { return size(a) > infinite }

func isInfinite(a uint32) bool { return size(a) == infinite }

func isNought(a uint32) bool { return size(a) == 0 }

// parts takes a number that is not infinite apart: without its sign it is m times 2^power.
func parts(a uint32) (m uint64, power int) {
	m = uint64(a & fractionBits)
	exponent := int(size(a) >> 23)
	if exponent == 0 {
		return m, leastPower
	}
	return m | 1<<23, exponent - 150
}

// rounded is the pattern for m times 2^power. Where the exact value has more bits than m can hold, the caller sets the last bit of m for what was dropped; m must then have at least 26 bits, so that this bit stands below the halfway place.
func rounded(sign uint32, m uint64, power int) uint32 {
	drop := max(bits.Len64(m)-24, leastPower-power)
	if drop > 0 {
		m = shifted(m, drop)
	} else {
		m <<= -drop
	}
	if m == 0 {
		return sign
	}
	// The bit 2^23 of m, where it is set, adds 1 to the exponent; so does a carry out of rounding.
	p := uint64(power+drop-leastPower)<<23 + m
	return sign | uint32(min(p, uint64(infinite)))
}

// shifted is the whole number nearest to m over 2^n, of two the even one.
func shifted(m uint64, n int) uint64 {
	if n > 64 {
		return 0
	}
	const halfway = 1 << 63
	q := m >> n
	rest := m << (64 - n)
	if rest > halfway || rest == halfway && q%2 == 1 {
		q++
	}
	return q
}

// root is the greatest whole number whose square is at most m.
func root(m uint64) uint64 {
	r := uint64(0)
	for bit := uint64(1 << 31); bit > 0; bit >>= 1 {
		if (r+bit)*(r+bit) <= m {
			r += bit
		}
	}
	return r
}

// sticky is 1 if there is a rest, so that rounding sees that the value is not quite what it seems.
func sticky(rest uint64) uint64 { return min(rest, 1) }
