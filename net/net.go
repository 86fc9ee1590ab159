// Package net: the layers of a net, and the slopes of its parameters at a sample: see DOC.md.
package net

import "tutor/api"

// Net is a net without its parameters: these are handed to it.
type Net struct {
	bents []bent
	last  last
}

// New makes the net of a configuration.
func New(c api.Config) *Net {
	n := &Net{}
	first := 0
	for k := 1; k < c.Layers; k++ {
		l := newLayer(c.Wide[k-1], c.Wide[k], first)
		n.bents = append(n.bents, newBent(l, c.Bend))
		first = l.end()
	}
	n.last = last{layer: newLayer(c.Wide[c.Layers-1], c.Wide[c.Layers], first), loss: c.Loss}
	return n
}

// Parameters tells how many parameters the net has.
func (n *Net) Parameters() int { return n.last.end() }

// Slopes tells each parameter's slope at one sample (P10).
func (n *Net) Slopes(parameters []uint32, x []uint32, y []uint32) []uint32 {
	n.forward(parameters, x)
	slopes := make([]uint32, n.Parameters())
	errors := n.last.errors(y)
	behind := &n.last.layer
	behind.slope(slopes, errors)
	for k := len(n.bents) - 1; k >= 0; k-- {
		b := &n.bents[k]
		errors = b.errors(behind.blames(parameters, errors))
		b.slope(slopes, errors)
		behind = &b.layer
	}
	return slopes
}

// forward makes all layers' sums.
func (n *Net) forward(parameters []uint32, x []uint32) {
	given := x
	for k := range n.bents {
		b := &n.bents[k]
		b.add(parameters, given)
		b.answer()
		given = b.answers
	}
	n.last.add(parameters, given)
}
