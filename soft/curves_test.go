package soft

import (
	"math"
	"math/rand"
	"testing"

	"tutor/api"
)

// The steps of P4a, one by one, in the machine's own numbers.

func machinePolynomial(x float32, first uint32, rest []uint32) float32 {
	p := number(first)
	for _, c := range rest {
		p = plus(times(p, x), number(c))
	}
	return p
}

func machineExp(x float32) float32 {
	switch {
	case x != x:
		return x
	case number(0x42b17217) < x:
		return float32(math.Inf(1))
	case x < number(0xc2cff1b5):
		return 0
	}
	k := int(math.RoundToEven(float64(times(x, number(0x3fb8aa3b)))))
	r := minus(minus(x, times(float32(k), number(0x3f317200))), times(float32(k), number(0x35bfbe8e)))
	p := machinePolynomial(r, 0x3ab60b61, []uint32{0x3c088889, 0x3d2aaaab, 0x3e2aaaab, 0x3f000000, 0x3f800000, 0x3f800000})
	h := int(math.Floor(float64(k) / 2))
	return times(times(p, float32(math.Ldexp(1, h))), float32(math.Ldexp(1, k-h)))
}

func machineSigmoid(x float32) float32 { return over(1, plus(1, machineExp(-x))) }

func machineTanh(x float32) float32 { return minus(times(2, machineSigmoid(times(2, x))), 1) }

func machineCos(x float32) float32 {
	if 0.5 < x {
		return -machineCos1(minus(1, x))
	}
	return machineCos1(x)
}

func machineCos1(x float32) float32 {
	u := times(number(0x40490fdb), x)
	return machinePolynomial(times(u, u), 0x37d00d01, []uint32{0xbab60b61, 0x3d2aaaab, 0xbf000000, 0x3f800000})
}

// curves are the calls of P4a, with their oracles.
var curves = []struct {
	name    string
	call    func(uint32) uint32
	machine func(float32) float32
}{
	{"Exp", Exp, machineExp}, {"Sigmoid", Sigmoid, machineSigmoid}, {"Tanh", Tanh, machineTanh}, {"Cos", Cos, machineCos},
}

func checkCurves(t *testing.T, a uint32) {
	t.Helper()
	for _, c := range curves {
		if got, want := c.call(a), pattern(c.machine(number(a))); got != want {
			t.Fatalf("P4a: %s(%#x) = %#x, want %#x", c.name, a, got, want)
		}
	}
}

func TestP4aRows(t *testing.T) {
	for _, x := range []struct {
		what      string
		got, want uint32
	}{
		{"Exp(0)", Exp(0), 0x3f800000}, {"Exp(-0)", Exp(0x80000000), 0x3f800000},
		{"Exp(infinite)", Exp(0x7f800000), 0x7f800000}, {"Exp(-infinite)", Exp(0xff800000), 0},
		{"Exp(just within the upper bound)", Exp(0x42b17216), 0x7f7fff04},
		{"Exp(the upper bound)", Exp(0x42b17217), 0x7f7fff84},
		{"Exp(just above the upper bound)", Exp(0x42b17218), 0x7f800000},
		{"Exp(just within the lower bound)", Exp(0xc2cff1b4), 0x00000001},
		{"Exp(the lower bound)", Exp(0xc2cff1b5), 0},
		{"Exp(just below the lower bound)", Exp(0xc2cff1b6), 0},
		{"Exp(1)", Exp(0x3f800000), 0x402df854}, {"Exp(-1)", Exp(0xbf800000), 0x3ebc5ab2},
		{"Exp(no number)", Exp(0x7f800001), api.Quiet}, {"Exp(-no number)", Exp(0xffffffff), api.Quiet},
		{"Sigmoid(0)", Sigmoid(0), 0x3f000000}, {"Sigmoid(-0)", Sigmoid(0x80000000), 0x3f000000},
		{"Sigmoid(infinite)", Sigmoid(0x7f800000), 0x3f800000}, {"Sigmoid(-infinite)", Sigmoid(0xff800000), 0},
		{"Sigmoid(1)", Sigmoid(0x3f800000), 0x3f3b26a8}, {"Sigmoid(-1)", Sigmoid(0xbf800000), 0x3e89b2b1},
		{"Sigmoid(no number)", Sigmoid(0xffc00000), api.Quiet},
		{"Tanh(0)", Tanh(0), 0}, {"Tanh(-0)", Tanh(0x80000000), 0},
		{"Tanh(infinite)", Tanh(0x7f800000), 0x3f800000}, {"Tanh(-infinite)", Tanh(0xff800000), 0xbf800000},
		{"Tanh(1)", Tanh(0x3f800000), 0x3f42f7d4}, {"Tanh(-1)", Tanh(0xbf800000), 0xbf42f7d6},
		{"Tanh(no number)", Tanh(0x7fffffff), api.Quiet},
		{"Cos(0)", Cos(0), 0x3f800000}, {"Cos(-0)", Cos(0x80000000), 0x3f800000}, {"Cos(1)", Cos(0x3f800000), 0xbf800000},
		{"Cos(1/4)", Cos(0x3e800000), 0x3f3504f4}, {"Cos(3/4)", Cos(0x3f400000), 0xbf3504f4},
		{"Cos(no number)", Cos(0x7f800001), api.Quiet}, {"Cos(-no number)", Cos(0xffc00000), api.Quiet},
		{"Cos(infinite)", Cos(0x7f800000), 0xff800000},
	} {
		if x.got != x.want {
			t.Errorf("P4a: %s = %#x, want %#x", x.what, x.got, x.want)
		}
	}
}

// TestP4aExpBounds: all around the two bounds of Exp.
func TestP4aExpBounds(t *testing.T) {
	for _, bound := range []uint32{0x42b17217, 0xc2cff1b5} {
		for d := range uint32(2000) {
			checkCurves(t, bound-1000+d)
			checkCurves(t, (bound-1000+d)^0x80000000)
		}
	}
}

func TestP4aSteps(t *testing.T) {
	for _, a := range bothSigns() {
		checkCurves(t, a)
	}
	r := rand.New(rand.NewSource(6))
	for range 60000 {
		checkCurves(t, anyPattern(r))
		checkCurves(t, pattern(float32(r.NormFloat64()*40)))
		checkCurves(t, pattern(float32(r.NormFloat64()*3)))
		checkCurves(t, pattern(r.Float32()))
	}
	// Around the half, where Cos turns.
	for d := range uint32(200) {
		checkCurves(t, 0x3f000000-100+d)
	}
}

// TestP4aLastBits: at these the last bit of one of the constants shows in what Exp or Cos answers; few others do so.
func TestP4aLastBits(t *testing.T) {
	for _, a := range []uint32{
		0x3eb17218, 0x3eb17219, 0x3fddce9e, 0x3f851592, 0xbeb17218, 0xbeb17219, // 3fb8aa3b
		0x418a993c, 0x418a997e, 0x4147987d, 0x41479927, 0xc18a9988, 0xc147a5d9, // 35bfbe8e
		0x3e5c835b, 0x3e877657, 0x3e8c8e34, 0x3e96db19, 0xbe35e3d5, 0xbe475c10, // 3ab60b61
		0x3d94a575, 0x3e05e963, 0x3dff1b90, 0x3e13c797, 0xbde1f4a4, 0xbdd52966, // 3c088889
		0x3efffcca, 0x3efffc79, 0x3effff85, 0x3effffcc, 0x3efffffc, 0x3f000000, // those of Cos
	} {
		checkCurves(t, a)
	}
}

// TestP4aCurves: the steps come near to what they are named for.
func TestP4aCurves(t *testing.T) {
	near := func(what string, got uint32, want float64, least float64) {
		t.Helper()
		if math.Abs(float64(number(got))-want) > 2e-5*math.Abs(want)+least {
			t.Errorf("P4a: %s = %g, want about %g", what, number(got), want)
		}
	}
	for i := -4000; i <= 4000; i++ {
		x := float32(i) / 100
		near("Exp", Exp(pattern(x)), math.Exp(float64(x)), 0)
		near("Sigmoid", Sigmoid(pattern(x)), 1/(1+math.Exp(-float64(x))), 1e-30)
		near("Tanh", Tanh(pattern(x)), math.Tanh(float64(x)), 1e-6)
		u := float32(i+4000) / 8000
		near("Cos", Cos(pattern(u)), math.Cos(math.Pi*float64(u)), 1e-4)
	}
}

func TestP4aPolynomial(t *testing.T) {
	two, three, five := FromInt(2), FromInt(3), FromInt(5)
	for _, x := range []struct {
		what string
		got  uint32
		want int
	}{
		{"none", polynomial(two), 0},
		{"3", polynomial(two, three), 3},
		{"3x + 5", polynomial(two, three, five), 11},
		{"3x^2 + 5x + 2", polynomial(two, three, five, two), 24},
	} {
		if x.got != FromInt(x.want) {
			t.Errorf("Ways: the polynomial %s at 2 is %#x, want %d", x.what, x.got, x.want)
		}
	}
}
