package tutor

import (
	"math"
	"math/rand"
	"strings"
	"testing"

	"tutor/api"
	"tutor/disk"
)

// wrongConfigs are far from any configuration, each in its own way.
func wrongConfigs() []api.Config {
	var l []api.Config
	for _, n := range []int{math.MinInt, -1, 0, 1, api.MaxSteps + 1, math.MaxInt} {
		l = append(l, api.Config{
			Layers: n, Wide: [4]int{n, n, n, n}, Bend: n, Loss: n, Rule: n, Plan: n,
			Batch: n, Steps: n, Every: n, Span: n, Warm: n,
			Seed: uint32(n), Rate: uint32(n), Beta: uint32(n), Gamma: uint32(n), Small: uint32(n), Clip: uint32(n),
		})
	}
	return l
}

// TestP1AllEnd: whatever they are given, the calls end and do not panic.
func TestP1AllEnd(t *testing.T) {
	for _, c := range append(wrongConfigs(), plain()) {
		for _, data := range []string{"", "\xff", "1234", fitting(plain()), strings.Repeat("\x7f\xc0\x00\x00", 1000)} {
			for _, n := range []int{math.MinInt, -1, 0, 1, 400, math.MaxInt} {
				Check(c, data)
				Pick(c, n, n)
				Pick(c, api.MaxSamples, n)
				RateAt(c, n)
				After(c, data, n)
				useTrainer(c, data, disk.New(), n)
			}
		}
	}
}

// useTrainer calls all calls of a trainer, if there is one.
func useTrainer(c api.Config, data string, d *disk.Disk, n int) {
	x, e := Start(c, data, d)
	if e != api.OK {
		return
	}
	x.Work(n)
	x.Step()
	x.Saved()
	x.State()
	x.Trouble()
}

// TestP1OneDisk: even a disk that is used with several configurations, against the document, lets no call panic.
func TestP1OneDisk(t *testing.T) {
	r := rand.New(rand.NewSource(18))
	d := disk.New()
	for range 3000 {
		c := anyConfig(r)
		c.Layers, c.Wide, c.Every = 1, [4]int{1, 1 + r.Intn(2)}, 1+r.Intn(4)
		useTrainer(c, fitting(c), d, r.Intn(8)-1)
	}
}
