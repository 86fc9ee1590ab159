package tutor

import (
	"tutor/api"
	"tutor/soft"
)

const (
	one  uint32 = 0x3f800000
	half uint32 = 0x3f000000
)

// planned is the rate of a step by the configuration's plan.
func planned(c api.Config, step int) uint32 {
	switch c.Plan {
	case api.Halving:
		return halved(c.Rate, step/c.Span)
	case api.Wave:
		return waved(c, step)
	}
	return c.Rate
}

// halved halves a rate so many times, one by one, since each may round.
func halved(rate uint32, times int) uint32 {
	for range times {
		rate = soft.Mul(rate, half)
	}
	return rate
}

// waved is the rate of the plan Wave: it rises evenly, and falls as a cosine does.
func waved(c api.Config, step int) uint32 {
	if step < c.Warm {
		return soft.Mul(c.Rate, soft.Div(soft.FromInt(step+1), soft.FromInt(c.Warm)))
	}
	f := soft.Div(soft.FromInt(step-c.Warm), soft.FromInt(max(c.Steps-c.Warm, 1)))
	if soft.Less(one, f) {
		f = one
	}
	return soft.Mul(soft.Mul(c.Rate, half), soft.Add(one, soft.Cos(f)))
}
