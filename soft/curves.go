package soft

import "tutor/api"

const (
	expMost  uint32 = 0x42b17217 // what Exp is infinite above
	expLeast uint32 = 0xc2cff1b5 // what Exp is 0 below
	log2e    uint32 = 0x3fb8aa3b // 1 over the logarithm of 2
	ln2High  uint32 = 0x3f317200 // the logarithm of 2, in few bits, so that products with small whole numbers are exact
	ln2Low   uint32 = 0x35bfbe8e // what the former lacks
	pi       uint32 = 0x40490fdb
)

// polynomial works out a polynomial of x; its coefficients come from that of the highest power down.
func polynomial(x uint32, coefficients ...uint32) uint32 {
	if len(coefficients) == 0 {
		return 0
	}
	p := coefficients[0]
	for _, c := range coefficients[1:] {
		p = Add(Mul(p, x), c)
	}
	return p
}

// powerOf2 is 2^n, for n from -126 to 127.
func powerOf2(n int) uint32 { return uint32(n+127) << 23 }

// Exp is e to a number (P4a).
func Exp(a uint32) uint32 {
	switch {
	case isNoNumber(a):
		return api.Quiet
	case Less(expMost, a):
		return infinite
	case Less(a, expLeast):
		return 0
	}
	k := ToInt(Mul(a, log2e))
	n := FromInt(k)
	r := Sub(Sub(a, Mul(n, ln2High)), Mul(n, ln2Low))
	p := polynomial(r, 0x3ab60b61, 0x3c088889, 0x3d2aaaab, 0x3e2aaaab, half, one, one)
	// In two halves, since 2^k itself may be beyond all patterns where the answer is not.
	h := k >> 1
	return Mul(Mul(p, powerOf2(h)), powerOf2(k-h))
}

// Sigmoid is a number between 0 and 1 (P4a).
func Sigmoid(a uint32) uint32 {
	return Div(one, Add(one, Exp(turned(a))))
}

// Tanh is a number between -1 and 1 (P4a).
func Tanh(a uint32) uint32 {
	return Sub(Mul(two, Sigmoid(Mul(two, a))), one)
}

// Cos is the cosine of a number times pi, from 0 to 1 (P4a).
func Cos(a uint32) uint32 {
	if Less(half, a) {
		return turned(cosine(Sub(one, a)))
	}
	return cosine(a)
}

// cosine is Cos where its polynomial is near: from 0 to a half. It is no number only if b is, and Cos turns none such.
func cosine(b uint32) uint32 {
	u := Mul(pi, b)
	return polynomial(Mul(u, u), 0x37d00d01, 0xbab60b61, 0x3d2aaaab, 0xbf000000, one)
}
