package tutor

import (
	"math/rand"
	"testing"

	"tutor/api"
	"tutor/disk"
)

// fits holds a disk against P15: how many names there are, and how long the files; large: is there a state, saved or found?
func (j job) fits(t *testing.T, d *disk.Disk, large bool) {
	t.Helper()
	names, e := d.Names()
	if len(names) > 3 || e != api.OK {
		t.Fatalf("%v, %d", names, e)
	}
	most := 0
	for _, name := range names {
		text, _ := d.Read(name)
		most = max(most, len(text))
	}
	size := len(j.states[0])
	if most > size+64 || large && most < size {
		t.Fatalf("%v, up to %d bytes, the state has %d", names, most, size)
	}
}

// TestP15Sizes: each width and number of layers, behind each step.
func TestP15Sizes(t *testing.T) {
	r := rand.New(rand.NewSource(14))
	for kind := range 3 * 4 * 4 {
		c := plain()
		c.Layers, c.Every = 1+kind%3, 1+r.Intn(10)
		c.Wide = widths(r, c.Layers)
		c.Wide[0], c.Wide[c.Layers] = 1+kind/3%4, 1+kind/12
		j := newJob(t, c, dataOf(tame(r, c, 3)...))
		d := disk.New()
		x := j.start(t, d)
		j.fits(t, d, false)
		for range 9 {
			j.works(t, x, 1, 1)
			j.fits(t, d, x.Saved() > 0)
			y := j.start(t, d)
			j.fits(t, d, y.Saved() > 0)
		}
	}
}

// TestP15Failing: wherever a disk goes down or is full, again and again, and wherever the power fails.
func TestP15Failing(t *testing.T) {
	r := rand.New(rand.NewSource(15))
	j := plainJob(t, 9, 2)
	for range 300 {
		d := disk.New()
		for range 30 {
			d.Limit(r.Intn(8)-1, r.Intn(8)*len(j.states[0])/2-1)
			saved := 0
			if x, e := Start(j.c, j.data, d); e == api.OK {
				x.Work(r.Intn(9))
				saved = x.Saved()
			}
			d.Limit(-1, -1)
			j.fits(t, d, saved > 0)
			if r.Intn(2) == 0 {
				d.Crash(r.Intn(5)-1, r.Intn(len(j.states[0])+9))
			}
			j.fits(t, d, saved > 0)
		}
	}
}
