package soft

import (
	"math"
	"math/rand"
	"slices"
	"sync"
	"testing"

	"tutor/api"
)

// answers is what all calls answer to two patterns and a whole number.
func answers(a, b uint32, n int) []uint32 {
	less := uint32(0)
	if Less(a, b) {
		less = 1
	}
	return []uint32{
		Add(a, b), Sub(a, b), Mul(a, b), Div(a, b), Sqrt(a),
		FromInt(n), Exp(a), Sigmoid(a), Tanh(a), Cos(a),
		less, uint32(ToInt(a)), uint32(ToInt(a) >> 32),
	}
}

// howMany of the answers are numbers of the document; the others are none.
const howMany = 10

// TestP1AllEnd: at all edges every call ends, none panics, and no other no number than QUIET comes out.
func TestP1AllEnd(t *testing.T) {
	whole := []int{math.MinInt, math.MinInt + 1, -1 << 31, -1, 0, 1, 1 << 31, math.MaxInt - 1, math.MaxInt}
	i := 0
	forPairs(func(a, b uint32) {
		i++
		for k, p := range answers(a, b, whole[i%len(whole)])[:howMany] {
			if p&0x7fffffff > 0x7f800000 && p != api.Quiet {
				t.Errorf("P1: answer %d at %#x, %#x is the no number %#x", k, a, b, p)
			}
		}
	})
}

// TestP1ArgumentsAlone: what a call answers hangs neither on what was asked ahead of it nor on what is asked beside it.
func TestP1ArgumentsAlone(t *testing.T) {
	r := rand.New(rand.NewSource(7))
	type question struct {
		a, b uint32
		n    int
	}
	var asked []question
	var first [][]uint32
	for range 3000 {
		a, b := anyPair(r)
		q := question{a, b, int(r.Uint64()) >> r.Intn(64)}
		asked = append(asked, q)
		first = append(first, answers(q.a, q.b, q.n))
	}
	var all sync.WaitGroup
	for range 4 {
		all.Go(func() {
			for i, q := range slices.Backward(asked) {
				if !slices.Equal(answers(q.a, q.b, q.n), first[i]) {
					t.Errorf("P1: %#x, %#x, %d: other answers the second time", q.a, q.b, q.n)
				}
			}
		})
	}
	all.Wait()
}
