package tutor

import (
	"math"
	"math/rand"
	"slices"
	"testing"

	"tutor/api"
)

// TestP8Mix: the document's examples, and any numbers.
func TestP8Mix(t *testing.T) {
	if mix(0) != 0 || mix(1) != 0x514e28b7 {
		t.Errorf("%#x, %#x", mix(0), mix(1))
	}
	r := rand.New(rand.NewSource(2))
	for range 10000 {
		if x := r.Uint32(); mix(x) != hash(x) {
			t.Fatalf("mix(%#x) = %#x, want %#x", x, mix(x), hash(x))
		}
	}
}

// TestP8PickRows: epochs that were worked out apart from this program, the second and the third of each seed.
func TestP8PickRows(t *testing.T) {
	for _, p := range []struct {
		seed    uint32
		samples int
		want    []int
	}{
		{0, 16, []int{15, 11, 2, 4, 5, 0, 1, 9, 10, 7, 13, 3, 12, 6, 14, 8, 13, 11, 10, 6, 3, 4, 15, 0, 9, 7, 14, 5, 2, 8, 1, 12}},
		{1, 5, []int{0, 4, 1, 2, 3, 4, 1, 3, 2, 0}},
		{math.MaxUint32, 16, []int{13, 2, 14, 12, 6, 1, 9, 10, 15, 3, 11, 4, 7, 0, 8, 5, 15, 11, 2, 4, 5, 0, 1, 9, 10, 7, 13, 3, 12, 6, 14, 8}},
	} {
		var got []int
		for i := range 2 * p.samples {
			got = append(got, Pick(api.Config{Seed: p.seed}, p.samples, p.samples+i))
		}
		if !slices.Equal(got, p.want) {
			t.Errorf("seed %d, %d samples: %v, want %v", p.seed, p.samples, got, p.want)
		}
	}
}

// TestP8PickAny: any seed, epoch and number of samples; of the configuration the seed alone matters.
func TestP8PickAny(t *testing.T) {
	r := rand.New(rand.NewSource(3))
	for range 1000 {
		c := plain()
		c.Seed = r.Uint32()
		samples, epoch := 1+r.Intn(16), r.Intn(1<<r.Intn(58))
		want := order(c.Seed, samples, epoch)
		for i, k := range want {
			place := epoch*samples + i
			if got := Pick(c, samples, place); got != k {
				t.Fatalf("Pick(%d, %d, %d) = %d, want %d", c.Seed, samples, place, got, k)
			}
			if got := Pick(api.Config{Seed: c.Seed, Layers: -1}, samples, place); got != k {
				t.Fatalf("Pick with no configuration, %d, %d, %d = %d, want %d", c.Seed, samples, place, got, k)
			}
		}
	}
}

// TestP8PickGreatest: the greatest place, at each number of samples.
func TestP8PickGreatest(t *testing.T) {
	for samples := 1; samples <= 16; samples++ {
		want := order(5, samples, math.MaxInt/samples)[math.MaxInt%samples]
		if got := Pick(api.Config{Seed: 5}, samples, math.MaxInt); got != want {
			t.Errorf("%d samples: %d, want %d", samples, got, want)
		}
	}
}

// TestP8PickWrong: no samples, too many, and places below 0. So many places are asked because a wrong one may pick 0 by chance.
func TestP8PickWrong(t *testing.T) {
	c := api.Config{Seed: 2}
	for _, samples := range []int{math.MinInt, -16, -1, 0, 17, 18, math.MaxInt} {
		for place := range 40 {
			if got := Pick(c, samples, place); got != 0 {
				t.Errorf("Pick(%d, %d) = %d", samples, place, got)
			}
		}
		if got := Pick(c, samples, math.MaxInt); got != 0 {
			t.Errorf("Pick(%d, the greatest) = %d", samples, got)
		}
	}
	for samples := 1; samples <= 16; samples++ {
		for _, place := range []int{-1, -2, -3, -16, -17, math.MinInt, math.MinInt + 1} {
			if got := Pick(c, samples, place); got != 0 {
				t.Errorf("Pick(%d, %d) = %d", samples, place, got)
			}
		}
	}
}
