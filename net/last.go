package net

import (
	"tutor/api"
	"tutor/soft"
)

// last is the last layer: it answers its sums as they are, and is held against what is wanted.
type last struct {
	layer
	loss int
}

// errors tells how far the units are from what is wanted.
func (l *last) errors(wanted []uint32) []uint32 {
	errors := make([]uint32, l.wide)
	for unit, v := range l.held() {
		errors[unit] = soft.Sub(v, wanted[unit])
	}
	return errors
}

// held is what is held against what is wanted.
func (l *last) held() []uint32 {
	if l.loss == api.Cross {
		return l.shares()
	}
	return l.sums
}

// shares makes of the sums shares of 1.
func (l *last) shares() []uint32 {
	shares := make([]uint32, l.wide)
	most := l.most()
	total := uint32(0)
	for unit, s := range l.sums {
		shares[unit] = soft.Exp(soft.Sub(s, most))
		total = soft.Add(total, shares[unit])
	}
	for unit, e := range shares {
		shares[unit] = soft.Div(e, total)
	}
	return shares
}

// most is the greatest sum; where the first is no number, that one stays.
func (l *last) most() uint32 {
	most := l.sums[0]
	for _, s := range l.sums[1:] {
		if soft.Less(most, s) {
			most = s
		}
	}
	return most
}
