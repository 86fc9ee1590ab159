package tutor

import (
	"tutor/api"
	"tutor/net"
	"tutor/soft"
)

// sample is what goes into the net, and what is wanted of it.
type sample struct {
	x, y []uint32
}

// training is what steps are made with, and what they do not change.
type training struct {
	c       api.Config
	samples []sample
	net     *net.Net
}

// newTraining makes ready for the steps of a configuration with its data.
func newTraining(c api.Config, data string) *training {
	t := &training{c: c, net: net.New(c)}
	n := sampleBytes(c)
	for ; len(data) > 0; data = data[n:] {
		l := words(data[:n])
		t.samples = append(t.samples, sample{l[:c.Wide[0]], l[c.Wide[0]:]})
	}
	return t
}

// begin is the state ahead of all steps.
func (t *training) begin() *state { return firstState(t.c.Seed, t.net.Parameters()) }

// saves: is the state behind so many steps to be saved?
func (t *training) saves(steps int) bool { return steps%t.c.Every == 0 || steps == t.c.Steps }

// read is the state of a text; nil: it is none that is saved in this training.
func (t *training) read(text string) *state {
	s := readState(text, t.net.Parameters())
	if s == nil || !within(s.steps, 0, t.c.Steps) || !t.saves(s.steps) {
		return nil
	}
	return s
}

// send sends the numbers of the samples from a place on to an end, epoch by epoch, and closes the channel.
func (t *training) send(numbers chan<- int, place int, end int) {
	defer close(numbers)
	samples := len(t.samples)
	var order []int
	for ; place < end; place++ {
		if order == nil || place%samples == 0 {
			order = row(t.c.Seed, samples, place/samples)
		}
		numbers <- order[place%samples]
	}
}

// picks are the numbers of the samples that a step takes.
func (t *training) picks(step int) []int {
	picks := make([]int, t.c.Batch)
	for b := range picks {
		picks[b] = Pick(t.c, len(t.samples), step*t.c.Batch+b)
	}
	return picks
}

// step does one step with the samples of these numbers (P10).
func (t *training) step(s *state, picks []int) {
	slopes := t.slopes(s.parameters, picks)
	clip(slopes, t.c.Clip)
	rate := RateAt(t.c, s.steps)
	if t.c.Rule == api.Adam {
		t.adam(s, slopes, rate)
	} else {
		t.momentum(s, slopes, rate)
	}
	s.steps++
}

// slopes are the parameters' slopes, on the average of some samples.
func (t *training) slopes(parameters []uint32, picks []int) []uint32 {
	slopes := make([]uint32, len(parameters))
	for _, k := range picks {
		for i, g := range t.net.Slopes(parameters, t.samples[k].x, t.samples[k].y) {
			slopes[i] = soft.Add(slopes[i], g)
		}
	}
	scale(slopes, soft.Div(one, soft.FromInt(t.c.Batch)))
	return slopes
}

// scale multiplies each slope.
func scale(slopes []uint32, by uint32) {
	for i, g := range slopes {
		slopes[i] = soft.Mul(g, by)
	}
}

// clip shortens slopes that are longer than most, taken together; most is no bound if it is not above 0.
func clip(slopes []uint32, most uint32) {
	if !soft.Less(0, most) {
		return
	}
	squares := uint32(0)
	for _, g := range slopes {
		squares = soft.Add(squares, soft.Mul(g, g))
	}
	if n := soft.Sqrt(squares); soft.Less(most, n) {
		scale(slopes, soft.Div(most, n))
	}
}

// momentum changes the parameters by the rule Momentum.
func (t *training) momentum(s *state, slopes []uint32, rate uint32) {
	for i, g := range slopes {
		v := soft.Add(soft.Mul(t.c.Beta, s.first[i]), g)
		s.first[i] = v
		s.parameters[i] = soft.Sub(s.parameters[i], soft.Mul(rate, v))
	}
}

// adam changes the parameters by the rule Adam.
func (t *training) adam(s *state, slopes []uint32, rate uint32) {
	full := soft.Sub(one, power(t.c.Beta, s.steps+1))
	fullSquares := soft.Sub(one, power(t.c.Gamma, s.steps+1))
	for i, g := range slopes {
		v := blend(t.c.Beta, s.first[i], g)
		w := blend(t.c.Gamma, s.second[i], soft.Mul(g, g))
		s.first[i], s.second[i] = v, w
		up := soft.Mul(rate, soft.Div(v, full))
		down := soft.Add(soft.Sqrt(soft.Div(w, fullSquares)), t.c.Small)
		s.parameters[i] = soft.Sub(s.parameters[i], soft.Div(up, down))
	}
}

// blend takes so much of what was, and the rest of what is new.
func blend(much uint32, was uint32, now uint32) uint32 {
	return soft.Add(soft.Mul(much, was), soft.Mul(soft.Sub(one, much), now))
}

// power is 1 times a, n times.
func power(a uint32, n int) uint32 {
	p := one
	for range n {
		p = soft.Mul(p, a)
	}
	return p
}
