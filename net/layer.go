package net

import "tutor/soft"

// layer is what all layers have in common. Its units stand one behind the other among the parameters, each with its bias, then its weights.
type layer struct {
	ahead, wide int      // how many units the layer ahead has, and this one
	first       int      // the place of its first parameter
	given       []uint32 // the answers of the layer ahead, at the sample at hand
	sums        []uint32 // its units' sums, at the sample at hand
}

// newLayer makes a layer whose parameters begin at a place.
func newLayer(ahead int, wide int, first int) layer {
	return layer{ahead: ahead, wide: wide, first: first, sums: make([]uint32, wide)}
}

// bias is the place of a unit's bias.
func (l *layer) bias(unit int) int { return l.first + unit*(1+l.ahead) }

// weight is the place of a unit's weight for a unit of the layer ahead.
func (l *layer) weight(unit int, from int) int { return l.bias(unit) + 1 + from }

// end is the place behind the last parameter.
func (l *layer) end() int { return l.bias(l.wide) }

// add makes the units' sums of what the layer ahead answered.
func (l *layer) add(parameters []uint32, given []uint32) {
	l.given = given
	for unit := range l.sums {
		s := parameters[l.bias(unit)]
		for from, a := range given {
			s = soft.Add(s, soft.Mul(parameters[l.weight(unit, from)], a))
		}
		l.sums[unit] = s
	}
}

// blames tells what each unit of the layer ahead is blamed for, by the errors of this one.
func (l *layer) blames(parameters []uint32, errors []uint32) []uint32 {
	blames := make([]uint32, l.ahead)
	for from := range blames {
		for unit, e := range errors {
			blames[from] = soft.Add(blames[from], soft.Mul(parameters[l.weight(unit, from)], e))
		}
	}
	return blames
}

// slope puts the slopes of its parameters in their places.
func (l *layer) slope(slopes []uint32, errors []uint32) {
	for unit, e := range errors {
		slopes[l.bias(unit)] = e
		for from, a := range l.given {
			slopes[l.weight(unit, from)] = soft.Mul(e, a)
		}
	}
}
