package tutor

import (
	"math"
	"math/rand"
	"runtime"
	"sync"
	"testing"
	"time"

	"tutor/api"
	"tutor/disk"
)

// works: Work(n) does so many steps.
func (j job) works(t *testing.T, x *Trainer, n int, did int) {
	t.Helper()
	if got, e := x.Work(n); got != did || e != api.OK {
		t.Fatalf("Work(%d) = %d, %d, want %d", n, got, e, did)
	}
}

// TestP12Example: with Every 2 and Steps 5 a trainer saves behind the steps 2, 4 and 5.
func TestP12Example(t *testing.T) {
	j := plainJob(t, 5, 2)
	d := disk.New()
	x := j.start(t, d)
	for i, saved := range []int{0, 2, 2, 4, 5} {
		j.works(t, x, 1, 1)
		j.has(t, x, i+1, saved)
		j.has(t, j.start(t, d), saved, saved)
	}
}

// TestP12Rows: n below 1, 1, more than are left, and none left.
func TestP12Rows(t *testing.T) {
	j := plainJob(t, 9, 4)
	x := j.start(t, disk.New())
	for _, p := range []struct{ n, did, step, saved int }{
		{0, 0, 0, 0}, {-1, 0, 0, 0}, {math.MinInt, 0, 0, 0},
		{1, 1, 1, 0}, {2, 2, 3, 0}, {1, 1, 4, 4}, {0, 0, 4, 4}, {-5, 0, 4, 4},
		{3, 3, 7, 4}, {math.MaxInt, 2, 9, 9}, {1, 0, 9, 9}, {0, 0, 9, 9}, {-1, 0, 9, 9}, {math.MaxInt, 0, 9, 9}, {math.MinInt, 0, 9, 9},
	} {
		j.works(t, x, p.n, p.did)
		j.has(t, x, p.step, p.saved)
	}
}

// TestP12Portions: all that can be done in portions of one size; what is saved hangs on the steps alone.
func TestP12Portions(t *testing.T) {
	for _, every := range []int{1, 2, 3, 5, 8, 9, 10, 200} {
		j := plainJob(t, 9, every)
		for n := 1; n <= 10; n++ {
			d := disk.New()
			x := j.start(t, d)
			for step := 0; step < 9; {
				j.works(t, x, n, min(n, 9-step))
				step = min(step+n, 9)
				j.has(t, x, step, j.due(step))
				j.has(t, j.start(t, d), j.due(step), j.due(step))
			}
		}
	}
}

// TestP12None: with no steps there is nothing to do, and nothing to save.
func TestP12None(t *testing.T) {
	j := plainJob(t, 0, 1)
	d := disk.New()
	x := j.start(t, d)
	d.Limit(0, 0)
	for _, n := range []int{math.MinInt, -1, 0, 1, math.MaxInt} {
		j.works(t, x, n, 0)
		j.has(t, x, 0, 0)
	}
	d.Limit(-1, -1)
	if names, _ := d.Names(); len(names) != 0 {
		t.Errorf("P15: %v", names)
	}
}

// TestP12Any: any configuration, in any portions, started again now and then.
func TestP12Any(t *testing.T) {
	r := rand.New(rand.NewSource(12))
	for range 1500 {
		c := anyConfig(r)
		c.Every = 1 + r.Intn(c.Steps+2)
		j := newJob(t, c, dataOf(wild(r, c, 1+r.Intn(api.MaxSamples))...))
		d := disk.New()
		x := j.start(t, d)
		for step := 0; step < c.Steps; {
			n := r.Intn(4)
			j.works(t, x, n, min(n, c.Steps-step))
			step = min(step+n, c.Steps)
			j.has(t, x, step, j.due(step))
			if r.Intn(3) == 0 {
				step = j.due(step)
				x = j.start(t, d)
				j.has(t, x, step, step)
			}
		}
	}
}

// TestP12Long: as many steps, samples and parameters as there may be.
func TestP12Long(t *testing.T) {
	r := rand.New(rand.NewSource(13))
	for samples := 1; samples <= api.MaxSamples; samples++ {
		c := plain()
		c.Layers, c.Wide, c.Batch, c.Steps, c.Every = 3, [4]int{4, 4, 4, 4}, 1+samples%api.MaxBatch, api.MaxSteps, 1+r.Intn(api.MaxSteps)
		data := dataOf(tame(r, c, samples)...)
		want, _ := After(c, data, c.Steps)
		x, e := Start(c, data, disk.New())
		if e != api.OK {
			t.Fatalf("Start: %d", e)
		}
		if did, e := x.Work(math.MaxInt); did != c.Steps || e != api.OK || x.State() != want || x.Saved() != c.Steps {
			t.Errorf("%d samples: %d, %d, saved %d", samples, did, e, x.Saved())
		}
	}
}

// TestP12NotSaving: where nothing is saved, nothing is asked of the disk.
func TestP12NotSaving(t *testing.T) {
	j := plainJob(t, 9, 4)
	d := disk.New()
	x := j.start(t, d)
	d.Limit(0, 0)
	j.works(t, x, 3, 3)
	j.has(t, x, 3, 0)
}

// TestP12Spent: a disk that goes down or is full at a saving. The trainer stops there, and does nothing from then on.
func TestP12Spent(t *testing.T) {
	j := plainJob(t, 9, 4)
	for _, p := range []struct{ left, room int }{{0, -1}, {1, -1}, {2, -1}, {3, -1}, {-1, 0}, {-1, len(j.states[0])}, {0, 0}} {
		d := disk.New()
		x := j.start(t, d)
		j.works(t, x, 5, 5)
		d.Limit(p.left, p.room)
		if did, e := x.Work(99); did != 3 || e != api.ErrDisk {
			t.Fatalf("%+v: %d, %d", p, did, e)
		}
		d.Limit(-1, -1)
		for _, n := range []int{1, 0, -1, math.MaxInt, math.MinInt} {
			if did, e := x.Work(n); did != 0 || e != api.ErrSpent {
				t.Errorf("%+v: Work(%d) = %d, %d", p, n, did, e)
			}
			if x.Step() != 8 || x.Saved() != 4 || x.State() != j.states[8] {
				t.Errorf("%+v: step %d, saved %d, state %x", p, x.Step(), x.Saved(), x.State())
			}
		}
	}
}

// TestP12SpentAtFirst: the first saving fails, and the last one.
func TestP12SpentAtFirst(t *testing.T) {
	j := plainJob(t, 9, 10)
	d := disk.New()
	x := j.start(t, d)
	d.Limit(1, -1)
	if did, e := x.Work(9); did != 9 || e != api.ErrDisk || x.Step() != 9 || x.Saved() != 0 {
		t.Errorf("%d, %d, step %d, saved %d", did, e, x.Step(), x.Saved())
	}
	if did, e := x.Work(1); did != 0 || e != api.ErrSpent {
		t.Errorf("%d, %d", did, e)
	}
}

// TestP1Apart: trainers on disks of their own, and on one, at once and in turn, do not disturb one another.
func TestP1Apart(t *testing.T) {
	one, other := plainJob(t, 9, 4), plainJob(t, 9, 1)
	shared := disk.New()
	x, y, z := one.start(t, shared), one.start(t, shared), other.start(t, disk.New())
	for step := range 9 {
		one.works(t, x, 1, 1)
		one.has(t, x, step+1, one.due(step+1))
		other.works(t, z, 1, 1)
		other.has(t, z, step+1, step+1)
		one.has(t, y, 0, 0)
	}
	for step := range 9 {
		one.works(t, y, 1, 1)
		one.has(t, y, step+1, one.due(step+1))
	}
	var wait sync.WaitGroup
	for range 8 {
		wait.Go(func() {
			d := disk.New()
			for range 5 {
				x, _ := Start(one.c, one.data, d)
				x.Work(5)
			}
			if x, _ := Start(one.c, one.data, d); x.State() != one.states[9] {
				t.Errorf("%d steps, %x", x.Step(), x.State())
			}
		})
	}
	wait.Wait()
}

// TestP12Ended: no goroutine is left behind Work, not even where it leaves early.
func TestP12Ended(t *testing.T) {
	j := plainJob(t, 200, 1)
	before := runtime.NumGoroutine()
	for i := range 300 {
		d := disk.New()
		x := j.start(t, d)
		if i%3 > 0 {
			d.Limit(i%5, -1)
		}
		x.Work(1 + i%200)
	}
	for range 100 {
		if runtime.NumGoroutine() <= before {
			return
		}
		time.Sleep(time.Millisecond)
	}
	t.Errorf("%d goroutines more than before", runtime.NumGoroutine()-before)
}

// TestP12Sender: all numbers are sent, in their order, from any place to any end, though nobody takes them yet.
func TestP12Sender(t *testing.T) {
	j := plainJob(t, 9, 4)
	w := newTraining(j.c, j.data)
	for place := range 12 {
		for n := range 12 {
			numbers := make(chan int, n)
			w.send(numbers, place, place+n)
			i := place
			for k := range numbers {
				if want := Pick(j.c, 5, i); k != want {
					t.Errorf("place %d: %d, want %d", i, k, want)
				}
				i++
			}
			if i != place+n {
				t.Errorf("from %d on %d numbers, want %d", place, i-place, n)
			}
		}
	}
}
