package tutor

import (
	"math"
	"math/rand"
	"slices"
	"strings"
	"testing"

	"tutor/api"
	"tutor/soft"
)

// The oracle does the steps of P10 in the machine's own 32-bit numbers, with each parameter at its layer, unit and place.
// Each operation is turned to float32 by itself, so that no compiler joins two of them.

func number(p uint32) float32 { return math.Float32frombits(p) }

func pattern(v float32) uint32 {
	if v != v {
		return api.Quiet
	}
	return math.Float32bits(v)
}

func root(v float32) float32 { return float32(math.Sqrt(float64(v))) }

// curve lets a call of soft take and answer the machine's numbers.
func curve(f func(uint32) uint32, v float32) float32 { return number(f(pattern(v))) }

// where is the place of a parameter: its layer (from 0 on), its unit, and 0 for the bias or 1 more than the unit ahead.
type where struct{ layer, unit, from int }

type oracle struct {
	c          api.Config
	places     []where
	value      map[where]float32
	v, w       map[where]float32
	xs, ys     [][]float32
	clipped    int // how many steps were clipped
	rate, beta float32
	gamma      float32
}

func newOracle(c api.Config, data []uint32) *oracle {
	o := &oracle{c: c, value: map[where]float32{}, v: map[where]float32{}, w: map[where]float32{}}
	for k := range c.Layers {
		for u := range c.Wide[k+1] {
			for f := range c.Wide[k] + 1 {
				p := where{k, u, f}
				o.places = append(o.places, p)
				h := hash(c.Seed+0x9e3779b9*uint32(len(o.places))) % 255
				o.value[p] = (float32(h) - 127) / 256
			}
		}
	}
	for len(data) > 0 {
		var l [2][]float32
		for i, n := range []int{c.Wide[0], c.Wide[c.Layers]} {
			for _, p := range data[:n] {
				l[i] = append(l[i], number(p))
			}
			data = data[n:]
		}
		o.xs, o.ys = append(o.xs, l[0]), append(o.ys, l[1])
	}
	return o
}

// hash is Mix, by whole numbers that do not wrap round.
func hash(v uint32) uint32 {
	x := uint64(v)
	x ^= x / (1 << 16)
	x = x * 0x85ebca6b % (1 << 32)
	x ^= x / (1 << 13)
	x = x * 0xc2b2ae35 % (1 << 32)
	return uint32(x ^ x/(1<<16))
}

// order is the row of an epoch.
func order(seed uint32, samples int, epoch int) []int {
	var l []int
	for i := range samples {
		l = append(l, i)
	}
	for i := samples - 1; i > 0; i-- {
		j := hash(hash(seed+uint32(epoch))+uint32(i)) % uint32(i+1)
		l[i], l[j] = l[j], l[i]
	}
	return l
}

// wantedRate is RateAt, for a configuration.
func wantedRate(c api.Config, step int) float32 {
	rate := number(c.Rate)
	switch {
	case c.Plan == api.Halving:
		for range step / c.Span {
			rate = float32(rate * 0.5)
		}
		return rate
	case c.Plan == api.Wave && step < c.Warm:
		return float32(rate * float32(float32(step+1)/float32(c.Warm)))
	case c.Plan == api.Wave:
		f := float32(1)
		if long := c.Steps - c.Warm; step < c.Steps {
			f = float32(float32(step-c.Warm) / float32(long))
		} else if step == c.Warm {
			f = 0
		}
		return float32(float32(rate*0.5) * float32(1+curve(soft.Cos, f)))
	}
	return rate
}

// step does step t.
func (o *oracle) step(t int) {
	g := map[where]float32{}
	for b := range o.c.Batch {
		place := t*o.c.Batch + b
		k := order(o.c.Seed, len(o.xs), place/len(o.xs))[place%len(o.xs)]
		errors, answers := o.sample(o.xs[k], o.ys[k])
		for _, p := range o.places {
			s := errors[p.layer][p.unit]
			if p.from > 0 {
				s = float32(s * answers[p.layer][p.from-1])
			}
			g[p] = float32(g[p] + s)
		}
	}
	squares := float32(0)
	for _, p := range o.places {
		g[p] = float32(g[p] * float32(1/float32(o.c.Batch)))
		squares = float32(squares + float32(g[p]*g[p]))
	}
	if most := number(o.c.Clip); most > 0 && root(squares) > most {
		o.clipped++
		for _, p := range o.places {
			g[p] = float32(g[p] * float32(most/root(squares)))
		}
	}
	o.rate, o.beta, o.gamma = wantedRate(o.c, t), number(o.c.Beta), number(o.c.Gamma)
	for _, p := range o.places {
		if o.c.Rule == api.Adam {
			o.adam(p, g[p], t)
		} else {
			o.v[p] = float32(float32(o.beta*o.v[p]) + g[p])
			o.value[p] = float32(o.value[p] - float32(o.rate*o.v[p]))
		}
	}
}

// adam changes one parameter.
func (o *oracle) adam(p where, g float32, t int) {
	b, c := float32(1), float32(1)
	for range t + 1 {
		b, c = float32(b*o.beta), float32(c*o.gamma)
	}
	o.v[p] = float32(float32(o.beta*o.v[p]) + float32(float32(1-o.beta)*g))
	o.w[p] = float32(float32(o.gamma*o.w[p]) + float32(float32(1-o.gamma)*float32(g*g)))
	up := float32(o.rate * float32(o.v[p]/float32(1-b)))
	down := float32(root(float32(o.w[p]/float32(1-c))) + number(o.c.Small))
	o.value[p] = float32(o.value[p] - float32(up/down))
}

// sample tells all layers' errors at a sample, and what each layer was given.
func (o *oracle) sample(x []float32, y []float32) (errors [][]float32, given [][]float32) {
	layers := o.c.Layers
	sums := make([][]float32, layers)
	errors, given = make([][]float32, layers), make([][]float32, layers+1)
	given[0] = x
	for k := range layers {
		for u := range o.c.Wide[k+1] {
			s := o.value[where{k, u, 0}]
			for f, a := range given[k] {
				s = float32(s + float32(o.value[where{k, u, f + 1}]*a))
			}
			sums[k] = append(sums[k], s)
			given[k+1] = append(given[k+1], o.answer(s))
		}
	}
	for u, v := range o.outcome(sums[layers-1]) {
		errors[layers-1] = append(errors[layers-1], float32(v-y[u]))
	}
	for k := layers - 2; k >= 0; k-- {
		for f, s := range sums[k] {
			blame := float32(0)
			for u, e := range errors[k+1] {
				blame = float32(blame + float32(o.value[where{k + 1, u, f + 1}]*e))
			}
			errors[k] = append(errors[k], o.passed(blame, s, given[k+1][f]))
		}
	}
	return errors, given
}

// answer is the answer of a sum, in all layers but the last.
func (o *oracle) answer(s float32) float32 {
	switch {
	case o.c.Bend == api.Tanh:
		return curve(soft.Tanh, s)
	case o.c.Bend == api.Sigmoid:
		return curve(soft.Sigmoid, s)
	case s > 0:
		return s
	}
	return 0
}

// passed is how much of the blame becomes the error.
func (o *oracle) passed(blame float32, s float32, a float32) float32 {
	switch {
	case o.c.Bend == api.Tanh:
		return float32(blame * float32(1-float32(a*a)))
	case o.c.Bend == api.Sigmoid:
		return float32(blame * float32(a*float32(1-a)))
	case s > 0:
		return blame
	}
	return 0
}

// outcome is what is held against y.
func (o *oracle) outcome(sums []float32) []float32 {
	if o.c.Loss != api.Cross {
		return sums
	}
	m, z := sums[0], float32(0)
	for _, s := range sums {
		if m < s {
			m = s
		}
	}
	var l []float32
	for _, s := range sums {
		l = append(l, curve(soft.Exp, float32(s-m)))
		z = float32(z + l[len(l)-1])
	}
	for i := range l {
		l[i] = float32(l[i] / z)
	}
	return l
}

// text is the state behind so many steps.
func (o *oracle) text(steps int) string {
	l := []uint32{uint32(steps)}
	for _, m := range []map[where]float32{o.value, o.v, o.w} {
		for _, p := range o.places {
			l = append(l, pattern(m[p]))
		}
	}
	return dataOf(l...)
}

// dataOf is a text of numbers.
func dataOf(l ...uint32) string {
	var b strings.Builder
	for _, w := range l {
		for shift := 24; shift >= 0; shift -= 8 {
			b.WriteByte(byte(w >> shift))
		}
	}
	return b.String()
}

// follow holds After against the oracle behind each step, and tells how many steps were clipped.
func follow(t *testing.T, c api.Config, data []uint32) int {
	t.Helper()
	o := newOracle(c, data)
	for steps := range c.Steps + 1 {
		if steps > 0 {
			o.step(steps - 1)
		}
		got, e := After(c, dataOf(data...), steps)
		if want := o.text(steps); got != want || e != api.OK {
			t.Fatalf("After(%+v, %x, %d) = %x, %d, want %x", c, data, steps, got, e, want)
		}
	}
	return o.clipped
}

// plain is a configuration with nothing strange in it.
func plain() api.Config {
	return api.Config{
		Layers: 2, Wide: [4]int{2, 3, 2, 0}, Bend: api.Tanh, Batch: 3, Steps: 9, Every: 4, Span: 2, Warm: 3, Seed: 12345,
		Rate: pattern(0.125), Beta: pattern(0.9), Gamma: pattern(0.99), Small: pattern(1e-6),
	}
}

// widths are widths of so many layers.
func widths(r *rand.Rand, layers int) (wide [4]int) {
	for k := range layers + 1 {
		wide[k] = 1 + r.Intn(api.MaxWide)
	}
	return wide
}

// tame are data of so many samples, of small numbers.
func tame(r *rand.Rand, c api.Config, samples int) []uint32 {
	l := make([]uint32, samples*(c.Wide[0]+c.Wide[c.Layers]))
	for i := range l {
		l[i] = pattern(float32(r.Intn(65)-32) / 16)
	}
	return l
}

// strange is a pattern that is apt to lead to infinite numbers, noughts, and no number at all.
func strange(r *rand.Rand) uint32 {
	l := []uint32{
		0, 0x80000000, 1, 0x80000001, 0x007fffff, 0x00800000, 0x3f800000, 0xbf800000, 0x3f000000, 0x40000000, 0x42b20000, 0xc2d00000,
		0x7f7fffff, 0xff7fffff, 0x7f800000, 0xff800000, 0x7f800001, 0xffffffff, api.Quiet, 0x5f000000, 0x1f000000, r.Uint32(),
	}
	return l[r.Intn(len(l))]
}

// anyConfig is any configuration of few steps, with strange numbers.
func anyConfig(r *rand.Rand) api.Config {
	c := api.Config{
		Layers: 1 + r.Intn(api.MaxLayers), Bend: r.Intn(3), Loss: r.Intn(2), Rule: r.Intn(2), Plan: r.Intn(3),
		Batch: 1 + r.Intn(api.MaxBatch), Steps: r.Intn(6), Every: 1 + r.Intn(api.MaxSteps), Span: 1 + r.Intn(4), Seed: r.Uint32(),
		Rate: pattern(0.25), Beta: pattern(0.75), Gamma: pattern(0.875), Small: pattern(0.001), Clip: pattern(0.5),
	}
	c.Wide = widths(r, c.Layers)
	c.Warm = r.Intn(c.Steps + 1)
	for _, p := range []*uint32{&c.Rate, &c.Beta, &c.Gamma, &c.Small, &c.Clip} {
		if r.Intn(3) == 0 {
			*p = strange(r)
		}
	}
	return c
}

// wild are data of so many samples, some of them strange.
func wild(r *rand.Rand, c api.Config, samples int) []uint32 {
	l := tame(r, c, samples)
	for i := range l {
		if r.Intn(2*len(l)) == 0 {
			l[i] = strange(r)
		}
	}
	return l
}

// TestOracleMixes: the oracle's Mix is that of the document.
func TestOracleMixes(t *testing.T) {
	if got := []uint32{hash(0), hash(1)}; !slices.Equal(got, []uint32{0, 0x514e28b7}) {
		t.Errorf("%x", got)
	}
}
