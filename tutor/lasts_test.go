package tutor

import (
	"math/rand"
	"slices"
	"testing"

	"tutor/api"
	"tutor/disk"
)

// world is a disk with all that was done to it.
type world struct {
	job
	d    *disk.Disk
	all  []*Trainer
	come int // the most steps that a trainer has come to
	safe int // what the last trainer has saved; 0, if something was bent since
}

// start starts a trainer, and holds what it finds against P13.
func (w *world) start(t *testing.T) {
	t.Helper()
	x, e := Start(w.c, w.data, w.d)
	if _, down := w.d.Names(); e == api.ErrDisk && x == nil && down == api.ErrDown {
		return
	}
	if e != api.OK {
		t.Fatalf("Start: %v, %d", x, e)
	}
	step := x.Step()
	if step < w.safe || step > w.come || step != w.due(step) {
		t.Fatalf("found step %d, the last trainer has saved %d, all have come to %d", step, w.safe, w.come)
	}
	w.has(t, x, step, step)
	w.all = append(w.all, x)
	w.safe = step
}

// work lets a trainer work, the last one or another, and holds what it does against P12 and P16.
func (w *world) work(t *testing.T, x *Trainer, n int) {
	t.Helper()
	before, saved, trouble := x.Step(), x.Saved(), x.Trouble()
	did, e := x.Work(n)
	step := before + did
	switch {
	case trouble != api.Trouble{}:
		if did != 0 || e != api.ErrSpent || x.Trouble() != trouble || x.Saved() != saved {
			t.Fatalf("spent: %d, %d, saved %d, %+v", did, e, x.Saved(), x.Trouble())
		}
	case e == api.OK:
		if did != max(min(n, w.c.Steps-before), 0) || x.Saved() != max(saved, w.due(step)) || x.Trouble() != (api.Trouble{}) {
			t.Fatalf("Work(%d) behind step %d: %d, saved %d, %+v", n, before, did, x.Saved(), x.Trouble())
		}
	default:
		if e != api.ErrDisk || step != w.due(step) || did < 1 || x.Saved() >= step || x.Saved() != max(saved, w.due(step-1)) {
			t.Fatalf("Work(%d) behind step %d: %d, %d, saved %d", n, before, did, e, x.Saved())
		}
		if f := x.Trouble(); f.Step != step || f.Doing < api.Writing || f.Doing > api.Naming || f.Err != api.ErrDown && (f.Err != api.ErrFull || f.Doing != api.Writing) {
			t.Fatalf("%+v", f)
		}
	}
	if x.Step() != step || x.State() != w.states[step] {
		t.Fatalf("step %d, state %x, want step %d", x.Step(), x.State(), step)
	}
	w.come = max(w.come, step)
	if x == w.all[len(w.all)-1] && x.Saved() > saved {
		w.safe = x.Saved()
	}
}

// bend bends a file.
func (w *world) bend(r *rand.Rand) {
	w.d.Limit(-1, -1)
	names, _ := w.d.Names()
	if len(names) == 0 {
		return
	}
	w.d.Bend(names[r.Intn(len(names))], r.Intn(len(w.states[0])+9), r.Uint32()>>r.Intn(32))
	w.safe = 0
}

// limit sets limits of which some are apt to strike in the next saving.
func (w *world) limit(r *rand.Rand) {
	left, room := -1, -1
	if r.Intn(3) > 0 {
		left = r.Intn(8)
	}
	if r.Intn(4) == 0 {
		room = r.Intn(3 * len(w.states[0]))
	}
	w.d.Limit(left, room)
}

// end holds the disk against P14: whatever was done to it, a trainer comes to the end.
func (w *world) end(t *testing.T) {
	t.Helper()
	w.d.Limit(-1, -1)
	w.start(t)
	x := w.all[len(w.all)-1]
	w.work(t, x, w.c.Steps)
	w.has(t, x, w.c.Steps, w.c.Steps)
	w.fits(t, w.d, w.c.Steps > 0)
}

// TestP13Any: whatever is done to a disk, in whatever order.
func TestP13Any(t *testing.T) {
	r := rand.New(rand.NewSource(16))
	var jobs []job
	for every := range 4 {
		jobs = append(jobs, plainJob(t, 9, every+1))
	}
	for i := range 3000 {
		bends := i%2 == 0
		w := &world{job: jobs[r.Intn(4)], d: disk.New()}
		for range 40 {
			switch k := r.Intn(10); {
			case k < 3:
				w.start(t)
			case k < 7 && len(w.all) > 0:
				x := w.all[len(w.all)-1]
				if r.Intn(5) == 0 {
					x = w.all[r.Intn(len(w.all))]
				}
				w.work(t, x, r.Intn(5))
			case k == 7:
				w.d.Crash(r.Intn(6)-1, r.Intn(len(w.states[0])+9)-1)
			case k == 8:
				w.limit(r)
			case k == 9 && bends:
				w.bend(r)
			}
		}
		w.end(t)
	}
}

// TestP13EachMoment: the disk goes down at each operation of two savings, then the power fails with any names kept, torn anywhere.
func TestP13EachMoment(t *testing.T) {
	j := plainJob(t, 5, 2)
	for left := range 14 {
		for keep := range 6 {
			for torn := 0; torn <= len(j.states[0])+8; torn += 3 {
				w := &world{job: j, d: disk.New()}
				w.start(t)
				w.work(t, w.all[0], 3)
				w.d.Limit(left, -1)
				w.start(t)
				w.work(t, w.all[len(w.all)-1], 5)
				w.d.Crash(keep, torn)
				w.start(t)
				w.end(t)
			}
		}
	}
}

// TestP13FoundLasts: what Start has found lasts, even if the saving had not come to its end.
func TestP13FoundLasts(t *testing.T) {
	j := plainJob(t, 9, 4)
	for left := range 5 {
		w := &world{job: j, d: disk.New()}
		w.start(t)
		w.work(t, w.all[0], 4)
		w.d.Limit(left, -1)
		w.work(t, w.all[0], 4)
		w.d.Limit(-1, -1)
		w.start(t)
		w.d.Crash(0, 0)
		w.start(t)
		w.end(t)
	}
}

// TestP13Older: an older trainer does not take back what the last one has saved.
func TestP13Older(t *testing.T) {
	w := &world{job: plainJob(t, 9, 2), d: disk.New()}
	w.start(t)
	w.start(t)
	w.work(t, w.all[1], 6)
	w.work(t, w.all[0], 5)
	w.has(t, w.all[0], 5, 4)
	w.d.Crash(0, 0)
	w.start(t)
	w.has(t, w.all[2], 6, 6)
}

// TestP13OtherSaved: what the last trainer finds saved by an older one at its own saving lasts too, though that one's saving had failed.
func TestP13OtherSaved(t *testing.T) {
	for left := range 5 {
		w := &world{job: plainJob(t, 9, 4), d: disk.New()}
		w.start(t)
		w.start(t)
		w.d.Limit(left, -1)
		w.work(t, w.all[0], 4)
		w.d.Limit(-1, -1)
		w.work(t, w.all[1], 4)
		w.has(t, w.all[1], 4, 4)
		w.d.Crash(0, 0)
		w.start(t)
		w.has(t, w.all[2], 4, 4)
	}
}

// TestP13Bends: one bend of any 4 bytes costs what was saved, at most.
func TestP13Bends(t *testing.T) {
	j := plainJob(t, 9, 4)
	r := rand.New(rand.NewSource(17))
	for at := range len(j.states[0]) + 9 {
		for _, by := range []uint32{1, 1 << 31, 0xffffffff, r.Uint32()} {
			d := disk.New()
			j.start(t, d).Work(8)
			names, _ := d.Names()
			for _, name := range names {
				d.Bend(name, at, by)
			}
			x := j.start(t, d)
			if step := x.Step(); step != 0 && step != 8 {
				t.Fatalf("step %d", step)
			}
			j.has(t, x, x.Step(), x.Step())
			x.Work(9)
			j.has(t, x, 9, 9)
			j.has(t, j.start(t, d), 9, 9)
		}
	}
}

// TestP16Trouble: what was being done, at which step, and what the disk told.
func TestP16Trouble(t *testing.T) {
	j := plainJob(t, 9, 4)
	size := len(j.states[0])
	var seen []int
	for _, p := range []struct {
		left, room int
		told       api.Errno
	}{{0, -1, api.ErrDown}, {1, -1, api.ErrDown}, {2, -1, api.ErrDown}, {3, -1, api.ErrDown}, {-1, 0, api.ErrFull}, {-1, size, api.ErrFull}, {9, size, api.ErrFull}, {0, 0, api.ErrDown}} {
		d := disk.New()
		x := j.start(t, d)
		j.works(t, x, 5, 5)
		d.Limit(p.left, p.room)
		x.Work(4)
		f := x.Trouble()
		if f.Err != p.told || f.Step != 8 || (f.Err == api.ErrFull || p.left == 0) && f.Doing != api.Writing {
			t.Errorf("%+v: %+v", p, f)
		}
		seen = append(seen, f.Doing)
	}
	if want := []int{api.Writing, api.Syncing, api.Renaming, api.Naming}; !slices.Equal(seen[:4], want) {
		t.Errorf("%v, want %v", seen[:4], want)
	}
}
