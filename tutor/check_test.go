package tutor

import (
	"math"
	"math/rand"
	"strings"
	"testing"

	"tutor/api"
)

// part is a whole number of a configuration, with its least and its greatest.
type part struct {
	name        string
	of          func(c *api.Config) *int
	least, most int
}

func parts() []part {
	return []part{
		{"Wide[0]", func(c *api.Config) *int { return &c.Wide[0] }, 1, 4},
		{"Wide[1]", func(c *api.Config) *int { return &c.Wide[1] }, 1, 4},
		{"Wide[2]", func(c *api.Config) *int { return &c.Wide[2] }, 1, 4},
		{"Wide[3]", func(c *api.Config) *int { return &c.Wide[3] }, 0, 0},
		{"Bend", func(c *api.Config) *int { return &c.Bend }, 0, 2},
		{"Loss", func(c *api.Config) *int { return &c.Loss }, 0, 1},
		{"Rule", func(c *api.Config) *int { return &c.Rule }, 0, 1},
		{"Plan", func(c *api.Config) *int { return &c.Plan }, 0, 2},
		{"Batch", func(c *api.Config) *int { return &c.Batch }, 1, 4},
		{"Steps", func(c *api.Config) *int { return &c.Steps }, 3, 200}, // 3: Warm
		{"Every", func(c *api.Config) *int { return &c.Every }, 1, 200},
		{"Span", func(c *api.Config) *int { return &c.Span }, 1, 200},
		{"Warm", func(c *api.Config) *int { return &c.Warm }, 0, 9},
	}
}

// fitting are data of one sample, of noughts.
func fitting(c api.Config) string {
	return strings.Repeat("\x00", 4*(c.Wide[0]+c.Wide[c.Layers]))
}

// TestP8CheckParts: each part at its ends, and one beyond them.
func TestP8CheckParts(t *testing.T) {
	for _, p := range parts() {
		for n := p.least; n <= p.most; n++ {
			c := plain()
			*p.of(&c) = n
			if e := Check(c, fitting(c)); e != api.OK {
				t.Errorf("%s %d: %d", p.name, n, e)
			}
		}
		for _, n := range []int{p.least - 1, p.most + 1, math.MinInt, math.MaxInt} {
			c := plain()
			data := fitting(c)
			*p.of(&c) = n
			if e := Check(c, data); e != api.ErrConfig {
				t.Errorf("%s %d: %d", p.name, n, e)
			}
		}
	}
}

// TestP8CheckLayers: so many layers have so many widths, and none beyond.
func TestP8CheckLayers(t *testing.T) {
	for layers := math.MinInt; layers != 6; layers = max(layers+1, -2) {
		for widths := range 5 {
			c := plain()
			c.Layers, c.Wide = layers, [4]int{}
			for k := range widths {
				c.Wide[k] = 1
			}
			want := api.ErrConfig
			if layers >= 1 && layers <= 3 && widths == layers+1 {
				want = api.OK
			}
			if e := Check(c, strings.Repeat("\x00", 8)); e != want {
				t.Errorf("%d layers, %d widths: %d", layers, widths, e)
			}
		}
	}
	c := plain()
	c.Wide[3] = -1
	if e := Check(c, fitting(c)); e != api.ErrConfig {
		t.Errorf("a width below 0 behind the last: %d", e)
	}
	c.Layers = math.MaxInt
	if e := Check(c, "0000"); e != api.ErrConfig {
		t.Errorf("the most layers: %d", e)
	}
}

// TestP8CheckEnds: few steps and many.
func TestP8CheckEnds(t *testing.T) {
	c := plain()
	for steps, want := range map[int]api.Errno{-1: api.ErrConfig, 0: api.OK, 200: api.OK, 201: api.ErrConfig} {
		for _, warm := range []int{0, steps, steps + 1} {
			c.Steps, c.Warm = steps, warm
			if warm == steps+1 {
				want = api.ErrConfig
			}
			if e := Check(c, fitting(c)); e != want {
				t.Errorf("%d steps, %d warm: %d", steps, warm, e)
			}
		}
	}
}

// TestP8CheckPatterns: a seed, a rate and their like may be anything, and so may the numbers of data.
func TestP8CheckPatterns(t *testing.T) {
	r := rand.New(rand.NewSource(1))
	for range 500 {
		c := plain()
		c.Seed, c.Rate, c.Beta, c.Gamma, c.Small, c.Clip = r.Uint32(), strange(r), strange(r), strange(r), strange(r), strange(r)
		data := dataOf(strange(r), strange(r), strange(r), strange(r))
		if e := Check(c, data); e != api.OK {
			t.Errorf("%+v, %x: %d", c, data, e)
		}
	}
}

// TestP8CheckData: data of each number of samples, one byte more and one less.
func TestP8CheckData(t *testing.T) {
	for in := 1; in <= 4; in++ {
		for out := 1; out <= 4; out++ {
			c := plain()
			c.Wide[0], c.Wide[2] = in, out
			one := 4 * (in + out)
			for samples := range 20 {
				want := api.OK
				if samples < 1 || samples > 16 {
					want = api.ErrData
				}
				if e := Check(c, strings.Repeat("\xff", samples*one)); e != want {
					t.Errorf("%d samples of %d bytes: %d", samples, one, e)
				}
				for _, n := range []int{samples*one + 1, samples*one + one/2, samples*one + one - 1} {
					if e := Check(c, strings.Repeat("\xff", n)); e != api.ErrData {
						t.Errorf("%d bytes, of %d a sample: %d", n, one, e)
					}
				}
			}
		}
	}
}

// TestP8CheckOrder: no configuration is told ahead of no data.
func TestP8CheckOrder(t *testing.T) {
	c := plain()
	c.Plan = 3
	for _, data := range []string{"", "1", fitting(plain())} {
		if e := Check(c, data); e != api.ErrConfig {
			t.Errorf("%x: %d", data, e)
		}
		if s, e := After(c, data, 1); s != "" || e != api.ErrConfig {
			t.Errorf("%x: %x, %d", data, s, e)
		}
	}
}
