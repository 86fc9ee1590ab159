package net

import (
	"tutor/api"
	"tutor/soft"
)

// one is the number 1.
const one uint32 = 0x3f800000

// bent is a layer with another behind it: its sums become its answers by a bend.
type bent struct {
	layer
	bend    int
	answers []uint32
}

// newBent makes of a layer one that bends its sums.
func newBent(l layer, bend int) bent {
	return bent{layer: l, bend: bend, answers: make([]uint32, l.wide)}
}

// answer makes the answers of the sums.
func (b *bent) answer() {
	for unit, s := range b.sums {
		b.answers[unit] = b.curve(s)
	}
}

// curve is the answer of a sum.
func (b *bent) curve(s uint32) uint32 {
	switch b.bend {
	case api.Tanh:
		return soft.Tanh(s)
	case api.Sigmoid:
		return soft.Sigmoid(s)
	}
	return ifAbove(s, s)
}

// errors makes the units' errors of what they are blamed for.
func (b *bent) errors(blames []uint32) []uint32 {
	errors := make([]uint32, b.wide)
	for unit, blame := range blames {
		errors[unit] = b.error(unit, blame)
	}
	return errors
}

// error is the error of one unit.
func (b *bent) error(unit int, blame uint32) uint32 {
	a := b.answers[unit]
	switch b.bend {
	case api.Tanh:
		return soft.Mul(blame, soft.Sub(one, soft.Mul(a, a)))
	case api.Sigmoid:
		return soft.Mul(blame, soft.Mul(a, soft.Sub(one, a)))
	}
	return ifAbove(b.sums[unit], blame)
}

// ifAbove is v where the sum s is above 0; no number is not.
func ifAbove(s uint32, v uint32) uint32 {
	if soft.Less(0, s) {
		return v
	}
	return 0
}
