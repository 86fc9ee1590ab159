package soft

import (
	"math"
	"math/big"
	"math/rand"
	"testing"

	"tutor/api"
)

// row is a call of two numbers, and what it must answer.
type row struct{ a, b, want uint32 }

func checkRows(t *testing.T, promise string, call func(uint32, uint32) uint32, rows []row) {
	t.Helper()
	for _, x := range rows {
		if got := call(x.a, x.b); got != x.want {
			t.Errorf("%s(%#x, %#x) = %#x, want %#x", promise, x.a, x.b, got, x.want)
		}
	}
}

// forPairs goes through every pair of edges, with both signs.
func forPairs(look func(a, b uint32)) {
	l := bothSigns()
	for _, a := range l {
		for _, b := range l {
			look(a, b)
		}
	}
}

func TestP2AddRows(t *testing.T) {
	checkRows(t, "P2: Add", Add, []row{
		{0x3f800000, 0x3f800000, 0x40000000},
		{0x3f800000, 0xc0400000, 0xc0000000},
		{0x00000001, 0x00000001, 0x00000002},
		{0x007fffff, 0x00000001, 0x00800000},
		{0x00800000, 0x80000001, 0x007fffff},
		// Noughts.
		{0x00000000, 0x00000000, 0x00000000},
		{0x80000000, 0x00000000, 0x00000000},
		{0x00000000, 0x80000000, 0x00000000},
		{0x80000000, 0x80000000, 0x80000000},
		{0x3f800000, 0xbf800000, 0x00000000},
		{0xbf800000, 0x3f800000, 0x00000000},
		{0x80000000, 0xbf800000, 0xbf800000},
		{0x00000001, 0x80000000, 0x00000001},
		// Halfway: 2^24 + 1, 2^24 + 3, and just beside.
		{0x4b800000, 0x3f800000, 0x4b800000},
		{0x4b800001, 0x3f800000, 0x4b800002},
		{0x4b800000, 0x3f800001, 0x4b800001},
		{0x4b800001, 0x3f7fffff, 0x4b800001},
		{0xcb800001, 0xbf800000, 0xcb800002},
		// Halfway but for something far below.
		{0x3f800000, 0x33800000, 0x3f800000},
		{0x3f800000, 0x33800001, 0x3f800001},
		{0x3f800000, 0xb3000000, 0x3f800000},
		{0x3f800000, 0xb3000001, 0x3f7fffff},
		{0x3f800001, 0x00000001, 0x3f800001},
		{0x3f800000, 0x80000001, 0x3f800000},
		{0x7f7fffff, 0x80000001, 0x7f7fffff},
		// What rounds to infinite: from 2^128 - 2^103 on.
		{0x7f7fffff, 0x73000000, 0x7f800000},
		{0x7f7fffff, 0x72ffffff, 0x7f7fffff},
		{0xff7fffff, 0xf3000000, 0xff800000},
		{0xff7fffff, 0xf2ffffff, 0xff7fffff},
		{0x7f7fffff, 0x7f7fffff, 0x7f800000},
		// Infinite ones, and no numbers.
		{0x7f800000, 0x7f800000, 0x7f800000},
		{0xff800000, 0xff800000, 0xff800000},
		{0x7f800000, 0xff800000, api.Quiet},
		{0xff800000, 0x7f800000, api.Quiet},
		{0x7f800000, 0xff7fffff, 0x7f800000},
		{0x3f800000, 0xff800000, 0xff800000},
		{0x7f800001, 0x3f800000, api.Quiet},
		{0x3f800000, 0xffc00000, api.Quiet},
		{0x7f800000, 0xffffffff, api.Quiet},
	})
}

func TestP2SubRows(t *testing.T) {
	checkRows(t, "P2: Sub", Sub, []row{
		{0x40400000, 0x3f800000, 0x40000000},
		{0x3f800000, 0x40400000, 0xc0000000},
		{0x3f800000, 0x3f800000, 0x00000000},
		{0x00000000, 0x00000000, 0x00000000},
		{0x80000000, 0x00000000, 0x80000000},
		{0x00000000, 0x80000000, 0x00000000},
		{0x80000000, 0x80000000, 0x00000000},
		{0x7f800000, 0x7f800000, api.Quiet},
		{0x7f800000, 0xff800000, 0x7f800000},
		{0x3f800000, 0x7f800000, 0xff800000},
		{0x3f800000, 0x7fc00000, api.Quiet},
		{0x3f800000, 0xff800001, api.Quiet},
		{0x7fc00001, 0x3f800000, api.Quiet},
	})
}

func TestP2EdgesExact(t *testing.T) {
	forPairs(func(a, b uint32) {
		if !plain(a) || !plain(b) {
			return
		}
		v := new(big.Rat).Add(signed(a), signed(b))
		want := nearestTo(v, v.Sign() < 0 || v.Sign() == 0 && negative(a) && negative(b))
		if got := Add(a, b); got != want {
			t.Errorf("P2: Add(%#x, %#x) = %#x, want %#x", a, b, got, want)
		}
		if got := Sub(a, b^0x80000000); got != want {
			t.Errorf("P2: Sub(%#x, %#x) = %#x, want %#x", a, b^0x80000000, got, want)
		}
	})
}

func TestP3MulRows(t *testing.T) {
	checkRows(t, "P3: Mul", Mul, []row{
		{0x40000000, 0x40400000, 0x40c00000},
		{0xc0000000, 0x40400000, 0xc0c00000},
		{0xc0000000, 0xc0400000, 0x40c00000},
		// Noughts with their sign.
		{0x00000000, 0x3f800000, 0x00000000},
		{0x80000000, 0x3f800000, 0x80000000},
		{0x80000000, 0xbf800000, 0x00000000},
		// E 0, and what rounds to a nought.
		{0x00000001, 0x3f000000, 0x00000000},
		{0x80000001, 0x3f000000, 0x80000000},
		{0x00000001, 0x3f000001, 0x00000001},
		{0x00000003, 0x3f000000, 0x00000002},
		{0x00000005, 0x3f000000, 0x00000002},
		{0x00000001, 0x00000001, 0x00000000},
		{0x80000001, 0x007fffff, 0x80000000},
		{0x00ffffff, 0x3f000000, 0x00800000},
		{0x00000001, 0x4b000000, 0x00800000},
		// Halfway in ordinary numbers: (2^23 + 1) times 1.5 in units of the last place.
		{0x3f800001, 0x3fc00000, 0x3fc00002},
		{0x3f800003, 0x3fc00000, 0x3fc00004},
		// What rounds to infinite.
		{0x7f000000, 0x40000000, 0x7f800000},
		{0x7f000000, 0xc0000000, 0xff800000},
		{0x7f7fffff, 0x3f800001, 0x7f800000},
		{0x7f7fffff, 0x3f7fffff, 0x7f7ffffe},
		{0x7f7fffff, 0x7f7fffff, 0x7f800000},
		// Infinite ones, and no numbers.
		{0x7f800000, 0x00000000, api.Quiet},
		{0x80000000, 0x7f800000, api.Quiet},
		{0xff800000, 0x80000000, api.Quiet},
		{0x7f800000, 0x80000001, 0xff800000},
		{0xbf800000, 0xff800000, 0x7f800000},
		{0x7f800000, 0x7f800000, 0x7f800000},
		{0x7f800000, 0xff800000, 0xff800000},
		{0x7f800001, 0x3f800000, api.Quiet},
		{0x00000000, 0xffffffff, api.Quiet},
		{0x7fc00000, 0x7f800000, api.Quiet},
	})
}

func TestP3DivRows(t *testing.T) {
	checkRows(t, "P3: Div", Div, []row{
		{0x3f800000, 0x40400000, 0x3eaaaaab},
		{0x40c00000, 0xc0000000, 0xc0400000},
		{0xc0c00000, 0xc0000000, 0x40400000},
		// Noughts.
		{0x3f800000, 0x00000000, 0x7f800000},
		{0xbf800000, 0x00000000, 0xff800000},
		{0x3f800000, 0x80000000, 0xff800000},
		{0x00000000, 0x3f800000, 0x00000000},
		{0x00000000, 0xbf800000, 0x80000000},
		{0x00000000, 0x00000000, api.Quiet},
		{0x80000000, 0x00000000, api.Quiet},
		// E 0, and what rounds to a nought or to infinite.
		{0x00000001, 0x40000000, 0x00000000},
		{0x80000001, 0x40000000, 0x80000000},
		{0x00000003, 0x40000000, 0x00000002},
		{0x00000001, 0x3fffffff, 0x00000001},
		{0x00000001, 0x00000003, 0x3eaaaaab},
		{0x00800000, 0x00000001, 0x4b000000},
		{0x00000001, 0x7f7fffff, 0x00000000},
		{0x7f7fffff, 0x3f7fffff, 0x7f800000},
		{0x7f7fffff, 0x00000001, 0x7f800000},
		{0xff7fffff, 0x3f000000, 0xff800000},
		// Infinite ones, and no numbers.
		{0x7f800000, 0x7f800000, api.Quiet},
		{0x7f800000, 0xff800000, api.Quiet},
		{0x7f800000, 0x80000000, 0xff800000},
		{0x7f800000, 0xbf800000, 0xff800000},
		{0x3f800000, 0x7f800000, 0x00000000},
		{0x3f800000, 0xff800000, 0x80000000},
		{0x00000000, 0x7f800000, 0x00000000},
		{0x7f800001, 0x00000000, api.Quiet},
		{0x3f800000, 0xffc00001, api.Quiet},
	})
}

func TestP3EdgesExact(t *testing.T) {
	forPairs(func(a, b uint32) {
		if !plain(a) || !plain(b) {
			return
		}
		sign := negative(a) != negative(b)
		want := nearestTo(new(big.Rat).Mul(exact(a), exact(b)), sign)
		if got := Mul(a, b); got != want {
			t.Errorf("P3: Mul(%#x, %#x) = %#x, want %#x", a, b, got, want)
		}
		if exact(b).Sign() == 0 {
			return
		}
		want = nearestTo(new(big.Rat).Quo(exact(a), exact(b)), sign)
		if got := Div(a, b); got != want {
			t.Errorf("P3: Div(%#x, %#x) = %#x, want %#x", a, b, got, want)
		}
	})
}

func TestP3Sqrt(t *testing.T) {
	for _, x := range []struct{ a, want uint32 }{
		{0x40000000, 0x3fb504f3}, {0x40800000, 0x40000000}, {0x41100000, 0x40400000},
		{0x00000000, 0x00000000}, {0x80000000, 0x80000000},
		{0x00000001, 0x1a3504f3}, {0x00000002, 0x1a800000}, {0x7f7fffff, 0x5f7fffff},
		{0xbf800000, api.Quiet}, {0x80000001, api.Quiet}, {0xff800000, api.Quiet},
		{0x7f800000, 0x7f800000},
		{0x7f800001, api.Quiet}, {0x7fffffff, api.Quiet}, {0xffc00000, api.Quiet},
	} {
		if got := Sqrt(x.a); got != x.want {
			t.Errorf("P3: Sqrt(%#x) = %#x, want %#x", x.a, got, x.want)
		}
	}
	r := rand.New(rand.NewSource(1))
	l := bothSigns()
	for range 2000 {
		l = append(l, anyPattern(r))
	}
	for _, a := range l {
		if !plain(a) || negative(a) {
			continue
		}
		if got, want := Sqrt(a), nearestRoot(exact(a)); got != want {
			t.Errorf("P3: Sqrt(%#x) = %#x, want %#x", a, got, want)
		}
	}
}

func TestP2P3Machine(t *testing.T) {
	r := rand.New(rand.NewSource(2))
	for range 400000 {
		a, b := anyPair(r)
		x, y := number(a), number(b)
		for _, c := range []struct {
			what      string
			got, want uint32
		}{
			{"P2: Add", Add(a, b), pattern(plus(x, y))},
			{"P2: Sub", Sub(a, b), pattern(minus(x, y))},
			{"P3: Mul", Mul(a, b), pattern(times(x, y))},
			{"P3: Div", Div(a, b), pattern(over(x, y))},
			{"P3: Sqrt", Sqrt(a), pattern(float32(math.Sqrt(float64(x))))},
		} {
			if c.got != c.want {
				t.Fatalf("%s(%#x, %#x) = %#x, want %#x", c.what, a, b, c.got, c.want)
			}
		}
	}
}

func TestP4Less(t *testing.T) {
	for _, x := range []struct {
		a, b uint32
		want bool
	}{
		{0x3f800000, 0x40000000, true}, {0x40000000, 0x3f800000, false}, {0x3f800000, 0x3f800000, false},
		{0xc0000000, 0xbf800000, true}, {0xbf800000, 0xc0000000, false}, {0xbf800000, 0x3f800000, true},
		{0x00000000, 0x80000000, false}, {0x80000000, 0x00000000, false},
		{0x80000001, 0x80000000, true}, {0x80000001, 0x00000000, true}, {0x80000000, 0x00000001, true},
		{0x007fffff, 0x00800000, true}, {0x7f7fffff, 0x7f800000, true}, {0xff800000, 0xff7fffff, true},
		{0x7f800000, 0x7f800000, false}, {0xff800000, 0x7f800000, true}, {0x7f800000, 0xff800000, false},
		{0x3f800000, 0x7f800001, false}, {0xffc00000, 0x3f800000, false}, {0xffffffff, 0x7fc00000, false},
		{0xff800001, 0xff800000, false}, {0x7f800000, 0x7fc00000, false},
	} {
		if got := Less(x.a, x.b); got != x.want {
			t.Errorf("P4: Less(%#x, %#x) = %v", x.a, x.b, got)
		}
	}
	forPairs(func(a, b uint32) {
		if got, want := Less(a, b), number(a) < number(b); got != want {
			t.Errorf("P4: Less(%#x, %#x) = %v", a, b, got)
		}
	})
	r := rand.New(rand.NewSource(3))
	for range 100000 {
		a, b := anyPair(r)
		if got, want := Less(a, b), number(a) < number(b); got != want {
			t.Fatalf("P4: Less(%#x, %#x) = %v", a, b, got)
		}
	}
}

func TestP4FromInt(t *testing.T) {
	for _, x := range []struct {
		n    int
		want uint32
	}{
		{0, 0}, {1, 0x3f800000}, {-1, 0xbf800000}, {-3, 0xc0400000}, {200, 0x43480000},
		{16777215, 0x4b7fffff}, {16777216, 0x4b800000}, {16777217, 0x4b800000}, {16777218, 0x4b800001},
		{16777219, 0x4b800002}, {-16777217, 0xcb800000}, {-16777219, 0xcb800002}, {33554431, 0x4c000000},
		{math.MaxInt, 0x5f000000}, {math.MinInt, 0xdf000000}, {math.MinInt + 1, 0xdf000000},
		{0x7fffffbfffffffff, 0x5effffff}, {0x7fffffc000000000, 0x5f000000},
		{1 << 62, 0x5e800000}, {1<<62 + 1<<38, 0x5e800000}, {1<<62 + 1<<38 + 1, 0x5e800001},
	} {
		if got := FromInt(x.n); got != x.want {
			t.Errorf("P4: FromInt(%d) = %#x, want %#x", x.n, got, x.want)
		}
	}
	r := rand.New(rand.NewSource(4))
	for i := range 20000 {
		n := int(r.Uint64()) >> r.Intn(64)
		if got, want := FromInt(n), pattern(float32(n)); got != want {
			t.Fatalf("P4: FromInt(%d) = %#x, want %#x", n, got, want)
		}
		if i%10 > 0 {
			continue
		}
		if got, want := FromInt(n), nearestTo(new(big.Rat).SetInt64(int64(n)), n < 0); got != want {
			t.Fatalf("P4: FromInt(%d) = %#x, want %#x", n, got, want)
		}
	}
}

func TestP4ToInt(t *testing.T) {
	for _, x := range []struct {
		a    uint32
		want int
	}{
		{0x00000000, 0}, {0x80000000, 0}, {0x00000001, 0}, {0x80000001, 0}, {0x007fffff, 0},
		{0x3f800000, 1}, {0xbf800000, -1}, {0x43480000, 200},
		// Halves go to the even one.
		{0x3f000000, 0}, {0x3f000001, 1}, {0x3effffff, 0}, {0x3fc00000, 2}, {0x40200000, 2}, {0x40600000, 4},
		{0xbf000000, 0}, {0xbfc00000, -2}, {0xc0200000, -2}, {0xc0600000, -4}, {0x4b000001, 8388609},
		{0x4affffff, 8388608}, {0x4afffffd, 8388606},
		// The greatest and the least.
		{0x4effffff, 2147483520}, {0x4f000000, 1 << 31}, {0x4f000001, 1 << 31}, {0x4f800000, 1 << 31},
		{0x7f7fffff, 1 << 31}, {0x7f800000, 1 << 31},
		{0xceffffff, -2147483520}, {0xcf000000, -1 << 31}, {0xcf000001, -1 << 31}, {0xcf800000, -1 << 31},
		{0xff7fffff, -1 << 31}, {0xff800000, -1 << 31},
		{0x7f800001, 0}, {0x7fc00000, 0}, {0xffffffff, 0},
	} {
		if got := ToInt(x.a); got != x.want {
			t.Errorf("P4: ToInt(%#x) = %d, want %d", x.a, got, x.want)
		}
	}
	r := rand.New(rand.NewSource(5))
	for range 100000 {
		a := anyPattern(r)
		want := 0
		if x := float64(number(a)); x == x {
			want = int(math.RoundToEven(min(max(x, -1<<31), 1<<31)))
		}
		if got := ToInt(a); got != want {
			t.Fatalf("P4: ToInt(%#x) = %d, want %d", a, got, want)
		}
	}
}
