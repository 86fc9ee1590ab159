package tutor

import (
	"encoding/hex"
	"math"
	"math/rand"
	"sync"
	"testing"

	"tutor/api"
)

// TestP9AfterFirst: the state ahead of all steps.
func TestP9AfterFirst(t *testing.T) {
	c := plain()
	c.Layers, c.Wide, c.Seed = 1, [4]int{2, 1}, 0
	got, e := After(c, dataOf(0, 0, 0), 0)
	l := []uint32{0}
	for i := range uint32(3) {
		h := hash(0x9e3779b9 * (i + 1))
		l = append(l, pattern((float32(h%255)-127)/256))
	}
	if want := dataOf(append(l, 0, 0, 0, 0, 0, 0)...); got != want || e != api.OK {
		t.Errorf("%x, %d, want %x", got, e, want)
	}
}

// TestP9AfterSteps: fewer steps than none are none, more than all are all.
func TestP9AfterSteps(t *testing.T) {
	c := plain()
	data := dataOf(tame(rand.New(rand.NewSource(5)), c, 5)...)
	at := func(steps int) string {
		s, e := After(c, data, steps)
		if e != api.OK {
			t.Errorf("%d steps: %d", steps, e)
		}
		return s
	}
	for _, steps := range []int{-1, -9, math.MinInt} {
		if at(steps) != at(0) {
			t.Errorf("%d steps are not 0", steps)
		}
	}
	for _, steps := range []int{10, 200, 201, math.MaxInt} {
		if at(steps) != at(9) {
			t.Errorf("%d steps are not 9", steps)
		}
	}
	for steps := range 10 {
		if got := at(steps)[:4]; got != string([]byte{0, 0, 0, byte(steps)}) {
			t.Errorf("%d steps: %x", steps, got)
		}
	}
	c.Steps, c.Warm = 0, 0
	if at(5) != at(0) {
		t.Errorf("there are steps beyond none")
	}
}

// TestP9AfterErrors: the errors of Check, with no text.
func TestP9AfterErrors(t *testing.T) {
	for _, p := range parts() {
		c := plain()
		data := fitting(c)
		*p.of(&c) = p.most + 1
		if s, e := After(c, data, 1); s != "" || e != api.ErrConfig {
			t.Errorf("%s: %x, %d", p.name, s, e)
		}
	}
	c := plain()
	one := fitting(c)
	for _, data := range []string{"", one[1:], one + "\x00", string(make([]byte, 17*len(one)))} {
		for _, steps := range []int{-1, 0, 3} {
			if s, e := After(c, data, steps); s != "" || e != api.ErrData {
				t.Errorf("%d bytes: %x, %d", len(data), s, e)
			}
		}
	}
}

// TestP10Rows: states that were worked out apart from this program and from the oracle.
func TestP10Rows(t *testing.T) {
	base := api.Config{
		Batch: 2, Steps: 7, Every: 3, Span: 2, Warm: 2, Seed: 0xfffffffe,
		Rate: 0x3dcccccd, Beta: 0x3f666666, Gamma: 0x3f7d70a4, Small: 0x358637bd, Clip: 0x3f000000,
	}
	waved, halved, even := base, base, base
	waved.Layers, waved.Wide, waved.Bend, waved.Rule, waved.Plan = 2, [4]int{1, 2, 1}, api.Tanh, api.Adam, api.Wave
	halved.Layers, halved.Wide, halved.Bend, halved.Loss, halved.Plan = 2, [4]int{1, 1, 2}, api.Sigmoid, api.Cross, api.Halving
	even.Layers, even.Wide, even.Seed, even.Clip = 3, [4]int{1, 1, 2, 1}, 20, 0
	ones := []float32{0.5, 1, -1.25, 0, 2, 0.3}
	twos := []float32{0.5, 1, 0, -1.25, 0, 1, 2, 0.3, 0.7}
	for _, p := range []struct {
		c     api.Config
		data  []float32
		steps int
		want  string
	}{
		{waved, ones, 5, "00000005bf26a5883d00a98a3e274c563ef0d96abd619668bee614a33ecc9d443d1311983cdda5afbd31add8bce3ef56be02be4c3cd17b00bc0b59dc3a04c9a23a0660493a4a31133a1b51373bd4ee423a2089d6398baf76"},
		{halved, twos, 7, "00000007be8725a73eb4fedfbeaeaf0a3dec5e2cbeab50f6be6a2f153cbe2286bc29ded03e99ab613dfa5627be99ab60bdfa5628000000000000000000000000000000000000000000000000"},
		{even, ones, 3, "000000033e3330703ea9a5103e59592b3e025b0b3f07bddbbc8ceb843d2cb95b3e15ee4e3ed3e2fd3aaff47c3aafe72bbdcf8344bd430404bea6356cbe1c9bc6bf718298be746483bedd5dd8000000000000000000000000000000000000000000000000000000000000000000000000"},
	} {
		var l []uint32
		for _, v := range p.data {
			l = append(l, pattern(v))
		}
		if got, e := After(p.c, dataOf(l...), p.steps); hex.EncodeToString([]byte(got)) != p.want || e != api.OK {
			t.Errorf("%+v: %x, %d, want %s", p.c, got, e, p.want)
		}
	}
}

// TestP10ByHand: one unit with one weight, one step with a rate of 1: the slopes are the error and the error times x.
func TestP10ByHand(t *testing.T) {
	c := api.Config{Layers: 1, Wide: [4]int{1, 1}, Batch: 1, Steps: 1, Every: 1, Span: 1, Rate: pattern(1), Beta: pattern(0.5)}
	x, y := float32(0.5), float32(-2)
	data := dataOf(pattern(x), pattern(y))
	first, _ := After(c, data, 0)
	l := words(first)
	bias, weight := number(l[1]), number(l[2])
	e := bias + weight*x - y
	want := dataOf(1, pattern(bias-e), pattern(weight-e*x), pattern(e), pattern(e*x), 0, 0)
	if got, _ := After(c, data, 1); got != want {
		t.Errorf("%x, want %x", got, want)
	}
}

// TestP10Kinds: each number of layers, Bend, Loss, Rule and Plan, without a Clip, with one that bites, and with one that doesn't.
func TestP10Kinds(t *testing.T) {
	r := rand.New(rand.NewSource(6))
	for kind := range 3 * 3 * 2 * 2 * 3 {
		c := plain()
		c.Layers, c.Bend, c.Loss, c.Rule, c.Plan = 1+kind%3, kind/3%3, kind/9%2, kind/18%2, kind/36%3
		for range 3 {
			c.Wide, c.Seed, c.Batch = widths(r, c.Layers), r.Uint32(), 1+r.Intn(api.MaxBatch)
			data := tame(r, c, 1+r.Intn(api.MaxSamples))
			c.Clip = 0
			follow(t, c, data)
			c.Clip = pattern(1e6)
			if n := follow(t, c, data); n != 0 {
				t.Errorf("%+v: %d steps clipped", c, n)
			}
			c.Clip = pattern(1e-3)
			// With one output Cross is off by 1 Sub y alone, which may be nought.
			if n := follow(t, c, data); n == 0 && c.Loss == api.Squares {
				t.Errorf("%+v: no step clipped", c)
			}
			c.Clip = pattern(-1e-3)
			follow(t, c, data)
		}
	}
}

// TestP10Long: as many steps as there may be, and more batches than samples.
func TestP10Long(t *testing.T) {
	r := rand.New(rand.NewSource(7))
	for kind := range 12 {
		c := plain()
		c.Bend, c.Rule, c.Loss, c.Plan = kind%3, kind/3%2, kind/6%2, kind%3
		c.Steps, c.Batch, c.Layers, c.Wide = api.MaxSteps, api.MaxBatch, 3, [4]int{4, 4, 4, 4}
		data := tame(r, c, 1+kind)
		o := newOracle(c, data)
		for step := range c.Steps {
			o.step(step)
		}
		if got, e := After(c, dataOf(data...), c.Steps); got != o.text(c.Steps) || e != api.OK {
			t.Errorf("%+v: %x, %d", c, got, e)
		}
	}
}

// TestP10Strange: infinite numbers, noughts and no number, wherever they may stand.
func TestP10Strange(t *testing.T) {
	r := rand.New(rand.NewSource(8))
	for range 4000 {
		c := anyConfig(r)
		follow(t, c, wild(r, c, 1+r.Intn(4)))
	}
}

// TestP10Learns: the steps lead to where the errors are small.
func TestP10Learns(t *testing.T) {
	for rule := range 2 {
		c := plain()
		c.Layers, c.Wide, c.Rule, c.Steps, c.Batch, c.Warm = 1, [4]int{1, 1}, rule, 200, 4, 0
		c.Plan, c.Rate, c.Beta = api.Wave, pattern(0.1), pattern(0.5)
		var data []uint32
		for i := range 8 {
			x := float32(i)/4 - 1
			data = append(data, pattern(x), pattern(0.25+0.5*x))
		}
		got, _ := After(c, dataOf(data...), 200)
		l := words(got)
		if bias, weight := number(l[1]), number(l[2]); math.Abs(float64(bias)-0.25) > 0.01 || math.Abs(float64(weight)-0.5) > 0.01 {
			t.Errorf("rule %d: bias %g, weight %g", rule, bias, weight)
		}
	}
}

// TestP1ArgumentsAlone: what is answered does not hang on what else is asked, or when.
func TestP1ArgumentsAlone(t *testing.T) {
	r := rand.New(rand.NewSource(9))
	var wait sync.WaitGroup
	for range 8 {
		c := anyConfig(r)
		data := dataOf(wild(r, c, 3)...)
		want, _ := After(c, data, c.Steps)
		for range 4 {
			wait.Go(func() {
				for range 20 {
					if got, e := After(c, data, c.Steps); got != want || e != api.OK {
						t.Errorf("%+v: %x, %d, want %x", c, got, e, want)
					}
				}
			})
		}
	}
	wait.Wait()
}
