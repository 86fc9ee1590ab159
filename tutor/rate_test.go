package tutor

import (
	"math"
	"math/rand"
	"testing"

	"tutor/api"
)

// TestP9RateRows: rates that are known without reckoning much.
func TestP9RateRows(t *testing.T) {
	half, tenth := pattern(0.5), pattern(0.1)
	for _, p := range []struct {
		plan, steps, span, warm int
		rate                    uint32
		step                    int
		want                    uint32
	}{
		{api.Even, 9, 2, 3, half, 0, half},
		{api.Even, 9, 2, 3, half, 400, half},
		{api.Even, 9, 2, 3, half, 401, 0},
		{api.Even, 9, 2, 3, half, -1, 0},
		{api.Halving, 9, 3, 0, half, 0, half},
		{api.Halving, 9, 3, 0, half, 2, half},
		{api.Halving, 9, 3, 0, half, 3, pattern(0.25)},
		{api.Halving, 9, 3, 0, half, 5, pattern(0.25)},
		{api.Halving, 9, 3, 0, half, 6, pattern(0.125)},
		{api.Halving, 9, 200, 0, half, 399, pattern(0.25)},
		{api.Halving, 9, 200, 0, half, 400, pattern(0.125)},
		{api.Halving, 9, 200, 0, half, 401, 0},
		{api.Halving, 9, 1, 0, pattern(1), 149, 1},
		{api.Halving, 9, 1, 0, pattern(1), 150, 0},
		{api.Halving, 9, 1, 0, pattern(-1), 400, 0x80000000},
		{api.Wave, 10, 2, 4, half, 0, pattern(0.125)},
		{api.Wave, 10, 2, 4, half, 1, pattern(0.25)},
		{api.Wave, 10, 2, 4, half, 3, half},
		{api.Wave, 10, 2, 4, half, 4, half},
		{api.Wave, 10, 2, 0, half, 0, half},
		{api.Wave, 0, 2, 0, half, 0, half},
		{api.Wave, 10, 2, 10, half, 9, half},
		{api.Wave, 10, 2, 10, half, 10, half},
		{api.Wave, 7, 2, 2, tenth, 0, 0x3d4ccccd},
		{api.Wave, 7, 2, 2, tenth, 4, 0x3d860b2a},
		{api.Wave, 7, 2, 2, tenth, 7, 0},
		{api.Wave, 7, 2, 2, tenth, 8, 0},
		{api.Wave, 7, 2, 2, tenth, 400, 0},
		{api.Wave, 7, 2, 7, tenth, 8, 0},
		{api.Wave, 7, 2, 2, tenth, 401, 0},
	} {
		c := plain()
		c.Plan, c.Steps, c.Span, c.Warm, c.Rate = p.plan, p.steps, p.span, p.warm, p.rate
		if got := RateAt(c, p.step); got != p.want {
			t.Errorf("%+v: %#x", p, got)
		}
	}
}

// TestP9RateAny: each plan at all its steps, with any rates.
func TestP9RateAny(t *testing.T) {
	r := rand.New(rand.NewSource(4))
	for range 300 {
		c := plain()
		c.Plan, c.Span, c.Steps = r.Intn(3), 1+r.Intn(api.MaxSteps), r.Intn(api.MaxSteps+1)
		c.Warm, c.Rate = r.Intn(c.Steps+1), r.Uint32()
		if r.Intn(4) == 0 {
			c.Warm = c.Steps
		}
		if c.Rate&0x7f800000 == 0x7f800000 {
			continue
		}
		for step := range 2*api.MaxSteps + 1 {
			if got, want := RateAt(c, step), pattern(wantedRate(c, step)); got != want {
				t.Fatalf("RateAt(%+v, %d) = %#x, want %#x", c, step, got, want)
			}
		}
	}
}

// TestP9RateNoNumber: a rate with which nothing is reckoned is told as it is; else no number is QUIET.
func TestP9RateNoNumber(t *testing.T) {
	for _, rate := range []uint32{0x7f800001, 0xffc00000, 0xffffffff, api.Quiet} {
		c := plain()
		c.Rate = rate
		for _, p := range []struct {
			plan, step int
			want       uint32
		}{
			{api.Even, 0, rate}, {api.Even, 400, rate},
			{api.Halving, 0, rate}, {api.Halving, c.Span - 1, rate}, {api.Halving, c.Span, api.Quiet}, {api.Halving, 400, api.Quiet},
			{api.Wave, 0, api.Quiet}, {api.Wave, c.Warm, api.Quiet}, {api.Wave, 400, api.Quiet},
		} {
			c.Plan = p.plan
			if got := RateAt(c, p.step); got != p.want {
				t.Errorf("rate %#x, plan %d, step %d: %#x, want %#x", rate, p.plan, p.step, got, p.want)
			}
		}
	}
}

// TestP9RateWrong: no configuration, and steps that are none.
func TestP9RateWrong(t *testing.T) {
	for plan := range 3 {
		c := plain()
		c.Plan = plan
		for _, step := range []int{math.MinInt, -400, -1, 401, 402, math.MaxInt} {
			if got := RateAt(c, step); got != 0 {
				t.Errorf("plan %d, step %d: %#x", plan, step, got)
			}
		}
		for _, p := range parts() {
			for _, n := range []int{p.least - 1, p.most + 1} {
				wrong := c
				*p.of(&wrong) = n
				for _, step := range []int{0, 1, 3, 400} {
					if got := RateAt(wrong, step); got != 0 {
						t.Errorf("%s %d, step %d: %#x", p.name, n, step, got)
					}
				}
			}
		}
	}
	for _, c := range wrongConfigs() {
		if got := RateAt(c, 1); got != 0 {
			t.Errorf("%+v: %#x", c, got)
		}
	}
}
