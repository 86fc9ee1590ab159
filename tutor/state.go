package tutor

import "tutor/soft"

// state is what the steps change.
type state struct {
	steps         int
	parameters    []uint32
	first, second []uint32 // the moments
}

// firstState is the state ahead of all steps.
func firstState(seed uint32, parameters int) *state {
	s := &state{
		parameters: make([]uint32, parameters),
		first:      make([]uint32, parameters),
		second:     make([]uint32, parameters),
	}
	for i := range s.parameters {
		s.parameters[i] = firstParameter(seed, i)
	}
	return s
}

// firstParameter is parameter i ahead of all steps.
func firstParameter(seed uint32, i int) uint32 {
	const over256 = 0x3b800000
	h := mix(seed+0x9e3779b9*uint32(i+1)) % 255
	return soft.Mul(soft.FromInt(int(h)-127), over256)
}

// text is the state as a text.
func (s *state) text() string {
	text := appendWords(nil, uint32(s.steps))
	text = appendWords(text, s.parameters...)
	text = appendWords(text, s.first...)
	text = appendWords(text, s.second...)
	return string(text)
}

// readState is the state of a text; nil: the text is none of a state with so many parameters.
func readState(text string, parameters int) *state {
	if len(text) != wordBytes*(1+3*parameters) {
		return nil
	}
	l := words(text)
	steps, l := l[0], l[1:]
	return &state{
		steps:      int(steps),
		parameters: l[:parameters],
		first:      l[parameters : 2*parameters],
		second:     l[2*parameters:],
	}
}
