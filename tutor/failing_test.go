package tutor

import (
	"maps"
	"math"
	"slices"
	"testing"

	"tutor/api"
	"tutor/disk"
)

// smallJob has few parameters, so that each place of its files can be tried.
func smallJob(t *testing.T, steps int, every int) job {
	t.Helper()
	c := plain()
	c.Layers, c.Wide, c.Batch, c.Steps, c.Every, c.Warm = 1, [4]int{1, 1}, 1, steps, every, 0
	return newJob(t, c, dataOf(0, 0x3f800000, 0x3f800000, 0, 0x40000000, 0xbf800000))
}

// files are the names on a disk that is not down, with their texts.
func files(t *testing.T, d *disk.Disk) map[string]string {
	t.Helper()
	names, e := d.Names()
	if e != api.OK {
		t.Fatalf("Names: %d", e)
	}
	l := map[string]string{}
	for _, name := range names {
		l[name], _ = d.Read(name)
	}
	return l
}

// last is the trainer that was started last.
func (w *world) last() *Trainer { return w.all[len(w.all)-1] }

// at is a disk whose last trainer has done so many steps, and has saved where it was due.
func (j job) at(t *testing.T, step int) *world {
	t.Helper()
	w := &world{job: j, d: disk.New()}
	w.start(t)
	w.work(t, w.last(), step)
	return w
}

// next works up to the next saving.
func (w *world) next(t *testing.T) {
	t.Helper()
	step := w.last().Step() + 1
	for step != w.due(step) {
		step++
	}
	w.work(t, w.last(), step-w.last().Step())
}

// fit holds the disk against P15, and takes its limits away.
func (w *world) fit(t *testing.T) {
	t.Helper()
	w.d.Limit(-1, -1)
	w.fits(t, w.d, w.safe > 0)
}

// spent: is the last trainer spent?
func (w *world) spent() bool { return w.last().Trouble() != api.Trouble{} }

// torn are the places at which a text may be torn, each of them and some beyond.
func (j job) torn() []int {
	l := []int{math.MinInt, math.MaxInt}
	for n := -1; n <= len(j.states[0])+66; n++ {
		l = append(l, n)
	}
	return l
}

// operations is how many operations of the disk something takes that fails where they are too few.
func operations(t *testing.T, fails func(left int) bool) int {
	t.Helper()
	for left := range 100 {
		if !fails(left) {
			return left
		}
	}
	t.Fatal("100 operations are too few")
	return 0
}

// savingOperations is how many operations the next saving behind a step takes.
func (j job) savingOperations(t *testing.T, step int) int {
	t.Helper()
	return operations(t, func(left int) bool {
		w := j.at(t, step)
		w.d.Limit(left, -1)
		w.next(t)
		return w.spent()
	})
}

// startOperations is how many operations a Start takes that finds something.
func (j job) startOperations(t *testing.T) int {
	t.Helper()
	return operations(t, func(left int) bool {
		w := j.at(t, j.c.Every)
		w.d.Limit(left, -1)
		w.start(t)
		return len(w.all) == 1
	})
}

// TestP13PowerInSaving: the power fails ahead of each operation of a saving, and behind the last: in the first saving, in one in the midst, in the last.
func TestP13PowerInSaving(t *testing.T) {
	j := smallJob(t, 5, 2)
	for _, step := range []int{0, 1, 2, 3, 4} {
		for left := range j.savingOperations(t, step) + 1 {
			for keep := -1; keep <= 5; keep++ {
				for _, torn := range j.torn() {
					w := j.at(t, step)
					w.d.Limit(left, -1)
					w.next(t)
					w.d.Crash(keep, torn)
					w.fit(t)
					w.start(t)
					w.fit(t)
					w.end(t)
				}
			}
		}
	}
}

// TestP13PowerTwice: the power fails in one saving, and then in the next one, which finds what the former left.
func TestP13PowerTwice(t *testing.T) {
	j := smallJob(t, 5, 2)
	most := j.savingOperations(t, 2)
	for first := range most + 1 {
		for second := range most + 3 {
			for kept := range 9 {
				for _, torn := range []int{0, 5, 28, 30, 99} {
					w := j.at(t, 2)
					w.d.Limit(first, -1)
					w.next(t)
					w.d.Crash(kept/3, torn)
					w.d.Limit(second, -1)
					w.start(t)
					if !w.spent() {
						w.next(t)
					}
					w.d.Crash(kept%3, torn/2)
					w.fit(t)
					w.start(t)
					w.end(t)
				}
			}
		}
	}
}

// TestP13PowerInStart: a Start comes to the end of the operations, behind a saving that did so too; then the power fails.
func TestP13PowerInStart(t *testing.T) {
	j := smallJob(t, 5, 2)
	for first := range j.savingOperations(t, 2) + 1 {
		for second := range j.startOperations(t) + 1 {
			for keep := -1; keep <= 5; keep++ {
				for _, torn := range j.torn() {
					w := j.at(t, 2)
					w.d.Limit(first, -1)
					w.next(t)
					w.d.Limit(second, -1)
					w.start(t)
					w.d.Crash(keep, torn)
					w.fit(t)
					w.start(t)
					w.end(t)
				}
			}
		}
	}
}

// TestP11StartFails: a Start that comes to the end of the operations tells it, and changes no text.
func TestP11StartFails(t *testing.T) {
	j := smallJob(t, 5, 2)
	d := disk.New()
	j.start(t, d).Work(4)
	before := files(t, d)
	for left := range j.startOperations(t) {
		d.Limit(left, -1)
		if x, e := Start(j.c, j.data, d); x != nil || e != api.ErrDisk {
			t.Errorf("%d operations: %v, %d", left, x, e)
		}
		d.Limit(-1, -1)
		if now := files(t, d); !maps.Equal(now, before) {
			t.Errorf("%d operations: %x, before it %x", left, now, before)
		}
		j.has(t, j.start(t, d), 4, 4)
	}
}

// TestP13DownInTurn: the operations come to an end in saving after saving, without the power failing between them.
func TestP13DownInTurn(t *testing.T) {
	j := smallJob(t, 9, 2)
	most := j.savingOperations(t, 2)
	for row := range (most + 1) * (most + 1) * (most + 1) {
		w := j.at(t, 1)
		for range 3 {
			w.d.Limit(row%(most+1), -1)
			row /= most + 1
			w.next(t)
			w.fit(t)
			w.start(t)
			w.fit(t)
		}
		w.d.Crash(0, 0)
		w.start(t)
		w.end(t)
	}
}

// TestP12Room: with one byte too few a saving fails and the disk stays as it was; with just enough it does not.
func TestP12Room(t *testing.T) {
	for _, j := range []job{smallJob(t, 5, 2), plainJob(t, 5, 2)} {
		size := len(j.states[0])
		for _, step := range []int{0, 2, 4} {
			enough := 0
			for room := 0; enough == 0; room++ {
				w := j.at(t, step)
				before := files(t, w.d)
				w.d.Limit(-1, room)
				w.next(t)
				if !w.spent() {
					enough = room
					continue
				}
				if f := w.last().Trouble(); f != (api.Trouble{Err: api.ErrFull, Step: w.due(min(step+2, 5)), Doing: api.Writing}) {
					t.Fatalf("P16: room for %d bytes: %+v", room, f)
				}
				w.d.Limit(-1, -1)
				if now := files(t, w.d); !maps.Equal(now, before) {
					t.Fatalf("room for %d bytes: %x, before it %x", room, now, before)
				}
				w.start(t)
				w.has(t, w.last(), step, step)
				w.end(t)
			}
			if enough < size || enough > 3*(size+64) {
				t.Errorf("behind step %d: room for %d bytes is enough, a state has %d", step, enough, size)
			}
		}
	}
}

// TestP12RoomAgain: where a saving has failed for want of room, the next trainer needs no more room than it did.
func TestP12RoomAgain(t *testing.T) {
	j := smallJob(t, 9, 2)
	room := 2 * (len(j.states[0]) + 64)
	w := j.at(t, 2)
	for left := range j.savingOperations(t, 2) {
		w.d.Limit(left, room)
		w.next(t)
		w.d.Limit(-1, room)
		w.start(t)
	}
	w.work(t, w.last(), 9)
	w.has(t, w.last(), 9, 9)
}

// bends are ways to bend 4 bytes.
func bends() []uint32 {
	l := []uint32{0, 0xffffffff, 0x80000001, 0x01010101, 0x00ffff00, 0x04c11db7, 0xedb88320}
	for bit := range 32 {
		l = append(l, 1<<bit)
	}
	return l
}

// TestP13BendEach: one bend at each place of each file, behind savings that came to each of their operations, with and without the power failing; then a start.
func TestP13BendEach(t *testing.T) {
	j := smallJob(t, 5, 2)
	for left := range j.savingOperations(t, 2) + 1 {
		for keep := -1; keep <= 3; keep++ {
			made := func() *world {
				w := j.at(t, 2)
				w.d.Limit(left, -1)
				w.next(t)
				w.d.Limit(-1, -1)
				if keep >= 0 {
					w.d.Crash(keep, 9)
				}
				return w
			}
			for name, text := range files(t, made().d) {
				for at := range len(text) - 3 {
					for _, by := range bends() {
						w := made()
						w.d.Bend(name, at, by)
						w.safe = 0
						w.start(t)
						w.fit(t)
						w.end(t)
					}
				}
			}
		}
	}
}

// TestP13BendAll: each file has its bend, and the power fails behind it, so that what stood there earlier comes back.
func TestP13BendAll(t *testing.T) {
	j := smallJob(t, 5, 2)
	for left := range j.savingOperations(t, 2) + 1 {
		for at := range len(j.states[0]) + 64 {
			for keep := range 4 {
				w := j.at(t, 2)
				w.d.Limit(left, -1)
				w.next(t)
				w.d.Limit(-1, -1)
				for name := range files(t, w.d) {
					w.d.Bend(name, at, 0x80000001)
				}
				w.safe = 0
				w.d.Crash(keep, 2*at)
				w.start(t)
				w.d.Crash(0, 0)
				w.start(t)
				w.end(t)
			}
		}
	}
}

// TestP13BendUnder: a bend under a trainer at work costs no more than what was saved ahead of it: the next saving lasts.
func TestP13BendUnder(t *testing.T) {
	j := smallJob(t, 9, 2)
	for at := range len(j.states[0]) + 64 {
		w := j.at(t, 4)
		for name := range files(t, w.d) {
			w.d.Bend(name, at, 1<<31)
		}
		w.safe = 0
		w.next(t)
		w.has(t, w.last(), 6, 6)
		w.d.Crash(0, 0)
		w.start(t)
		w.has(t, w.last(), 6, 6)
		w.end(t)
	}
}

// TestP13BendOlder: an older trainer does not take a bent state that seems further on for one.
func TestP13BendOlder(t *testing.T) {
	j := smallJob(t, 9, 2)
	for at := range len(j.states[0]) + 64 {
		w := j.at(t, 0)
		older := w.last()
		w.start(t)
		w.work(t, w.last(), 9)
		for name := range files(t, w.d) {
			w.d.Bend(name, at, 1)
		}
		w.safe = 0
		w.work(t, older, 2)
		w.d.Crash(0, 0)
		if x := j.start(t, w.d); x.Step() != 2 && x.Step() != 9 {
			t.Errorf("bent at %d: step %d", at, x.Step())
		}
		w.end(t)
	}
}

// TestP12SpentAndNext: a spent trainer stays as it is and lets the disk be, while the next one goes on.
func TestP12SpentAndNext(t *testing.T) {
	j := smallJob(t, 9, 4)
	limits := [][2]int{{-1, 0}, {-1, len(j.states[0])}}
	for left := range j.savingOperations(t, 5) {
		limits = append(limits, [2]int{left, -1})
	}
	for _, p := range limits {
		w := j.at(t, 5)
		w.d.Limit(p[0], p[1])
		w.next(t)
		x := w.last()
		trouble := x.Trouble()
		w.fit(t)
		w.start(t)
		for w.last().Step() < 9 {
			before := files(t, w.d)
			for _, n := range []int{1, 9, 0, -1, math.MaxInt, math.MinInt} {
				w.work(t, x, n)
			}
			if x.Step() != 8 || x.Saved() != 4 || x.State() != j.states[8] || x.Trouble() != trouble {
				t.Fatalf("%v: step %d, saved %d, %+v, then %+v", p, x.Step(), x.Saved(), trouble, x.Trouble())
			}
			if now := files(t, w.d); !maps.Equal(now, before) {
				t.Fatalf("%v: %x, before it %x", p, now, before)
			}
			w.work(t, w.last(), 1)
		}
		w.has(t, w.last(), 9, 9)
		w.end(t)
	}
}

// TestP16NotSpent: there is no trouble at first, behind savings, where the disk is down but not needed, at the end, and for the next trainer.
func TestP16NotSpent(t *testing.T) {
	j := smallJob(t, 5, 2)
	none := func(x *Trainer) {
		t.Helper()
		if f := x.Trouble(); f != (api.Trouble{}) {
			t.Errorf("step %d: %+v", x.Step(), f)
		}
	}
	d := disk.New()
	x := j.start(t, d)
	none(x)
	for _, n := range []int{-1, 0, 1, 1, 0} {
		x.Work(n)
		none(x)
	}
	d.Limit(0, 0)
	x.Work(1)
	none(x)
	if did, e := x.Work(1); did != 1 || e != api.ErrDisk || x.Trouble() != (api.Trouble{Err: api.ErrDown, Step: 4, Doing: api.Writing}) {
		t.Errorf("%d, %d, %+v", did, e, x.Trouble())
	}
	d.Limit(-1, -1)
	y := j.start(t, d)
	none(y)
	y.Work(9)
	none(y)
	d.Limit(0, 0)
	y.Work(9)
	none(y)
	j.has(t, y, 5, 5)
}

// TestP16EachStep: the step and the deed that are told are those at which the operations came to an end, whichever saving it was.
func TestP16EachStep(t *testing.T) {
	j := smallJob(t, 5, 2)
	doings := []int{api.Writing, api.Syncing, api.Renaming, api.Naming}
	for left := range 3 * len(doings) {
		d := disk.New()
		x := j.start(t, d)
		d.Limit(left, -1)
		step := []int{2, 4, 5}[left/len(doings)]
		if did, e := x.Work(5); did != step || e != api.ErrDisk || x.Saved() != j.due(step-1) {
			t.Errorf("%d operations: %d, %d, saved %d", left, did, e, x.Saved())
		}
		if f := x.Trouble(); f != (api.Trouble{Err: api.ErrDown, Step: step, Doing: doings[left%len(doings)]}) {
			t.Errorf("%d operations: %+v", left, f)
		}
	}
}

// TestP14Example: the README's example of a disk that fails.
func TestP14Example(t *testing.T) {
	j := newJob(t, api.Config{
		Layers: 2, Wide: [4]int{1, 3, 1}, Bend: api.Tanh, Loss: api.Squares, Rule: api.Adam, Plan: api.Wave,
		Batch: 1, Steps: 100, Every: 10, Span: 1, Warm: 5, Seed: 7,
		Rate: 0x3d4ccccd, Beta: 0x3f666666, Gamma: 0x3f7fbe77, Small: 0x322bcc77,
	}, dataOf(0, 0x3f800000, 0x3f800000, 0))
	d := disk.New()
	x := j.start(t, d)
	j.works(t, x, 15, 15)
	j.has(t, x, 15, 10)
	d.Limit(2, -1)
	if did, e := x.Work(15); did != 5 || e != api.ErrDisk {
		t.Errorf("%d, %d", did, e)
	}
	if f := x.Trouble(); f != (api.Trouble{Err: api.ErrDown, Step: 20, Doing: api.Renaming}) {
		t.Errorf("%+v", f)
	}
	if did, e := x.Work(1); did != 0 || e != api.ErrSpent || x.Step() != 20 || x.Saved() != 10 || x.State() != j.states[20] {
		t.Errorf("%d, %d, step %d, saved %d", did, e, x.Step(), x.Saved())
	}
	d.Crash(0, 0)
	y := j.start(t, d)
	j.has(t, y, 10, 10)
	j.works(t, y, 1000, 90)
	j.has(t, y, 100, 100)
}

// TestP1TwoDisks: two trainers in turn on two disks: whatever befalls the one, the other does as it does alone.
func TestP1TwoDisks(t *testing.T) {
	j := smallJob(t, 9, 2)
	var alone []map[string]string
	d := disk.New()
	x := j.start(t, d)
	for range 9 {
		j.works(t, x, 1, 1)
		alone = append(alone, files(t, d))
	}
	for kind := range 30 {
		w := j.at(t, kind%3)
		d := disk.New()
		x := j.start(t, d)
		for step := range 9 {
			w.d.Limit(kind%5, kind%4*40-1)
			w.work(t, w.last(), 2)
			w.d.Limit(-1, -1)
			for name := range files(t, w.d) {
				w.d.Bend(name, kind, 1)
			}
			w.safe = 0
			w.d.Crash(kind%3, kind)
			w.start(t)
			j.works(t, x, 1, 1)
			j.has(t, x, step+1, j.due(step+1))
			if now := files(t, d); !maps.Equal(now, alone[step]) {
				t.Fatalf("step %d: %x, alone %x", step+1, now, alone[step])
			}
		}
		w.end(t)
	}
}

// TestP13Wrong: limits, failures of the power and bends with numbers and names that are far from any.
func TestP13Wrong(t *testing.T) {
	j := smallJob(t, 9, 2)
	odd := []int{math.MinInt, math.MinInt + 1, -5, -1, 0, 1, math.MaxInt - 3, math.MaxInt}
	for _, n := range odd {
		for _, m := range odd {
			w := j.at(t, 3)
			for _, name := range append(slices.Collect(maps.Keys(files(t, w.d))), "", "none", "\xff", "a name that is too long") {
				w.d.Bend(name, n, math.MaxUint32)
				if n == 0 || n == 1 {
					w.safe = 0
				}
			}
			w.d.Limit(n, m)
			w.next(t)
			w.start(t)
			w.d.Crash(n, m)
			w.fit(t)
			w.start(t)
			w.work(t, w.last(), n)
			w.end(t)
		}
	}
}
