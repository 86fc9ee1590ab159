package net

import (
	"math"
	"math/rand"
	"slices"
	"testing"

	"tutor/api"
)

func number(p uint32) float64 { return float64(math.Float32frombits(p)) }

func numbers(l []uint32) []float64 {
	var out []float64
	for _, p := range l {
		out = append(out, number(p))
	}
	return out
}

func patterns(l ...float64) []uint32 {
	var out []uint32
	for _, v := range l {
		out = append(out, math.Float32bits(float32(v)))
	}
	return out
}

// loss is how bad the net is at a sample, in the machine's 64-bit numbers: what the slopes are the slopes of.
func loss(c api.Config, parameters []float64, x []float64, y []float64) float64 {
	given := x
	for k := 1; k <= c.Layers; k++ {
		var answers []float64
		for range c.Wide[k] {
			s := parameters[0]
			for i, a := range given {
				s += parameters[1+i] * a
			}
			parameters = parameters[1+len(given):]
			switch {
			case k == c.Layers:
			case c.Bend == api.Tanh:
				s = math.Tanh(s)
			case c.Bend == api.Sigmoid:
				s = 1 / (1 + math.Exp(-s))
			default:
				s = max(s, 0)
			}
			answers = append(answers, s)
		}
		given = answers
	}
	sum, all := 0.0, 0.0
	for _, s := range given {
		all += math.Exp(s)
	}
	for i, s := range given {
		if c.Loss == api.Cross {
			sum -= y[i] * (s - math.Log(all))
		} else {
			sum += (s - y[i]) * (s - y[i]) / 2
		}
	}
	return sum
}

// drawn is a net's configuration, with parameters and a sample for it. What is wanted are shares of 1, as Cross takes them.
func drawn(r *rand.Rand) (c api.Config, parameters []uint32, x []uint32, y []uint32) {
	c = api.Config{Layers: 1 + r.Intn(api.MaxLayers), Bend: r.Intn(3), Loss: r.Intn(2)}
	for k := range c.Layers + 1 {
		c.Wide[k] = 1 + r.Intn(api.MaxWide)
	}
	for range New(c).Parameters() {
		parameters = append(parameters, patterns(r.Float64()*2-1)...)
	}
	for range c.Wide[0] {
		x = append(x, patterns(r.Float64()*2-1)...)
	}
	left := 1.0
	for i := range c.Wide[c.Layers] {
		share := left * r.Float64()
		if i == c.Wide[c.Layers]-1 {
			share = left
		}
		left -= share
		y = append(y, patterns(share)...)
	}
	return c, parameters, x, y
}

// TestP10Parameters: a bias a unit, and a weight for each unit of the layer ahead.
func TestP10Parameters(t *testing.T) {
	for _, p := range []struct {
		layers int
		wide   [4]int
		want   int
	}{{1, [4]int{1, 1}, 2}, {1, [4]int{4, 3}, 15}, {2, [4]int{2, 3, 1}, 13}, {3, [4]int{4, 4, 4, 4}, 60}, {3, [4]int{1, 2, 3, 4}, 29}} {
		if n := New(api.Config{Layers: p.layers, Wide: p.wide}).Parameters(); n != p.want {
			t.Errorf("%v: %d, want %d", p.wide, n, p.want)
		}
	}
}

// TestP10Slopes: each slope is how the loss changes with its parameter.
func TestP10Slopes(t *testing.T) {
	r := rand.New(rand.NewSource(1))
	const step = 1e-5
	for range 500 {
		c, parameters, x, y := drawn(r)
		slopes := New(c).Slopes(parameters, x, y)
		for i := range parameters {
			at := func(by float64) float64 {
				l := numbers(parameters)
				l[i] += by
				return loss(c, l, numbers(x), numbers(y))
			}
			want := (at(step) - at(-step)) / (2 * step)
			if got := number(slopes[i]); math.Abs(got-want) > 1e-4 {
				t.Fatalf("%+v, parameters %v, x %v, y %v: slope %d is %g, want %g", c, numbers(parameters), numbers(x), numbers(y), i, got, want)
			}
		}
	}
}

// TestP10SlopesApart: a sample leaves nothing behind for the next, and changes nothing that was handed in.
func TestP10SlopesApart(t *testing.T) {
	r := rand.New(rand.NewSource(2))
	for range 200 {
		c, parameters, x, y := drawn(r)
		n := New(c)
		want := n.Slopes(parameters, x, y)
		kept := slices.Clone(want)
		before := slices.Concat(parameters, x, y)
		other := n.Slopes(slices.Repeat(patterns(0.5), len(parameters)), slices.Repeat(patterns(3), len(x)), slices.Repeat(patterns(-1), len(y)))
		if slices.Equal(other, want) {
			t.Fatalf("%+v: two samples have the same slopes", c)
		}
		if got := n.Slopes(parameters, x, y); !slices.Equal(got, want) || !slices.Equal(want, kept) {
			t.Fatalf("%+v: %x, then %x", c, kept, got)
		}
		if !slices.Equal(slices.Concat(parameters, x, y), before) {
			t.Fatalf("%+v: what was handed in is changed", c)
		}
	}
}

// TestP10Noughts: a sum of 0, and one that is no number, answer 0 where the bend is flat, and take no blame.
func TestP10Noughts(t *testing.T) {
	c := api.Config{Layers: 2, Wide: [4]int{1, 1, 1}, Bend: api.Flat}
	for _, bias := range []uint32{0, 0x80000000, api.Quiet, 0xff800000} {
		l := New(c).Slopes([]uint32{bias, 0, 0x3f800000, 0x3f800000}, patterns(1), patterns(0.25))
		if want := append([]uint32{0, 0}, patterns(0.75, 0)...); !slices.Equal(l, want) {
			t.Errorf("bias %#x: %x, want %x", bias, l, want)
		}
	}
}

// TestP10CrossFar: sums far apart, where their powers alone would be infinite; and the same shifted.
func TestP10CrossFar(t *testing.T) {
	c := api.Config{Layers: 1, Wide: [4]int{1, 3}, Loss: api.Cross}
	for _, p := range []struct{ sums, want []float64 }{
		{[]float64{1000, 0, -1000}, []float64{1, 0, 0}},
		{[]float64{-1000, 0, 1000}, []float64{0, 0, 1}},
		{[]float64{500, 500, 0}, []float64{0.5, 0.5, 0}},
		{[]float64{-300, -300, -300}, []float64{1.0 / 3, 1.0 / 3, 1.0 / 3}},
	} {
		var parameters []uint32
		for _, s := range p.sums {
			parameters = append(parameters, patterns(s, 0)...)
		}
		l := New(c).Slopes(parameters, patterns(1), patterns(0, 0, 0))
		var want []uint32
		for _, v := range p.want {
			want = append(want, patterns(v, v)...)
		}
		if !slices.Equal(l, want) {
			t.Errorf("%v: %x, want %x", p.sums, l, want)
		}
	}
}

// TestP10BlameBegins: blames begin with the nought of sign 0, so that one of sign 1 alone adds up to it.
func TestP10BlameBegins(t *testing.T) {
	c := api.Config{Layers: 2, Wide: [4]int{1, 1, 1}, Bend: api.Flat}
	l := New(c).Slopes(patterns(1, 0, 1, -1), patterns(1), patterns(0))
	if want := []uint32{0, 0, 0, 0}; !slices.Equal(l, want) {
		t.Errorf("%x, want %x", l, want)
	}
}
