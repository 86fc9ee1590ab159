package tutor

import (
	"math/rand"
	"testing"

	"tutor/api"
	"tutor/disk"
	"tutor/store"
)

// job is a configuration with its data, and the state behind each step.
type job struct {
	c      api.Config
	data   string
	states []string
}

func newJob(t *testing.T, c api.Config, data string) job {
	t.Helper()
	j := job{c: c, data: data}
	for steps := range c.Steps + 1 {
		s, e := After(c, data, steps)
		if e != api.OK {
			t.Fatalf("After(%+v, %x, %d): %d", c, data, steps, e)
		}
		j.states = append(j.states, s)
	}
	return j
}

// plainJob has so many steps, and is saved every so many.
func plainJob(t *testing.T, steps int, every int) job {
	t.Helper()
	c := plain()
	c.Steps, c.Every, c.Warm = steps, every, 0
	return newJob(t, c, dataOf(tame(rand.New(rand.NewSource(10)), c, 5)...))
}

// start is a trainer on a disk that has no limits.
func (j job) start(t *testing.T, d *disk.Disk) *Trainer {
	t.Helper()
	x, e := Start(j.c, j.data, d)
	if x == nil || e != api.OK {
		t.Fatalf("Start: %v, %d", x, e)
	}
	return x
}

// has: the trainer has done so many steps, so many of them are saved, and it is not spent.
func (j job) has(t *testing.T, x *Trainer, step int, saved int) {
	t.Helper()
	if x.Step() != step || x.Saved() != saved || x.State() != j.states[step] || x.Trouble() != (api.Trouble{}) {
		t.Fatalf("step %d, saved %d, state %x, %+v; want step %d, saved %d, state %x", x.Step(), x.Saved(), x.State(), x.Trouble(), step, saved, j.states[step])
	}
}

// due is the last step up to this one that is saved.
func (j job) due(step int) int {
	for step%j.c.Every != 0 && step != j.c.Steps {
		step--
	}
	return step
}

// TestP11First: on an empty disk there is the first state, and nothing is written.
func TestP11First(t *testing.T) {
	for _, steps := range []int{0, 1, 9} {
		j := plainJob(t, steps, 4)
		d := disk.New()
		j.has(t, j.start(t, d), 0, 0)
		j.has(t, j.start(t, d), 0, 0)
	}
}

// TestP11Errors: the errors of Check, in their order; nothing is asked of the disk.
func TestP11Errors(t *testing.T) {
	j := plainJob(t, 9, 4)
	wrong := j.c
	wrong.Every = 0
	for _, p := range []struct {
		c    api.Config
		data string
		want api.Errno
	}{
		{wrong, j.data, api.ErrConfig}, {wrong, "", api.ErrConfig}, {j.c, "", api.ErrData}, {j.c, j.data + "x", api.ErrData}, {j.c, j.data[1:], api.ErrData},
	} {
		d := disk.New()
		for _, left := range []int{1, 0} {
			d.Limit(left, -1)
			if x, e := Start(p.c, p.data, d); x != nil || e != p.want {
				t.Errorf("%d operations left: %v, %d, want %d", left, x, e, p.want)
			}
		}
		d.Limit(1, -1)
		Start(p.c, p.data, d)
		if e := d.SyncNames(); e != api.OK {
			t.Errorf("%d: an operation was used", p.want)
		}
		d.Limit(-1, -1)
		if names, _ := d.Names(); len(names) != 0 {
			t.Errorf("P15: %d: %v", p.want, names)
		}
	}
	for _, p := range parts() {
		c := plain()
		data := fitting(c)
		*p.of(&c) = p.most + 1
		if x, e := Start(c, data, disk.New()); x != nil || e != api.ErrConfig {
			t.Errorf("%s: %v, %d", p.name, x, e)
		}
	}
}

// TestP11Found: started again behind each step there is the state saved last.
func TestP11Found(t *testing.T) {
	for _, every := range []int{1, 2, 3, 4, 9, 10, 200} {
		j := plainJob(t, 9, every)
		for step := range 10 {
			d := disk.New()
			j.start(t, d).Work(step)
			for range 2 {
				j.has(t, j.start(t, d), j.due(step), j.due(step))
			}
		}
	}
}

// TestP11TextsAlone: what is found is found on any disk with the same names and texts.
func TestP11TextsAlone(t *testing.T) {
	j := plainJob(t, 9, 4)
	d, other := disk.New(), disk.New()
	j.start(t, d).Work(7)
	names, _ := d.Names()
	for _, name := range names {
		text, _ := d.Read(name)
		other.Write(name, text)
	}
	j.has(t, j.start(t, other), 4, 4)
	for _, name := range names {
		d.Remove(name)
	}
	j.has(t, j.start(t, d), 0, 0)
}

// TestP11NoState: texts that are no state of this training are not taken for one.
func TestP11NoState(t *testing.T) {
	j := plainJob(t, 9, 4)
	foreign := []string{
		"", "x", j.states[4][1:], j.states[4] + "x", j.states[4] + "\x00\x00\x00\x00", j.states[4][:4],
		"\x00\x00\x00\x03" + j.states[3][4:],
		"\x00\x00\x00\x0a" + j.states[9][4:],
		"\x00\x00\x00\x0c" + j.states[9][4:],
		"\xff\xff\xff\xfc" + j.states[9][4:],
		"\x80\x00\x00\x00" + j.states[9][4:],
	}
	for _, text := range foreign {
		d := disk.New()
		if err := store.Save(d, 1, text); err != nil {
			t.Fatal(err)
		}
		x := j.start(t, d)
		j.has(t, x, 0, 0)
		if did, e := x.Work(9); did != 9 || e != api.OK {
			t.Errorf("%x: %d, %d", text, did, e)
		}
		j.has(t, x, 9, 9)
		j.has(t, j.start(t, d), 9, 9)
	}
}

// TestP11Junk: any text under any of the names.
func TestP11Junk(t *testing.T) {
	j := plainJob(t, 9, 4)
	d := disk.New()
	j.start(t, d).Work(4)
	names, _ := d.Names()
	r := rand.New(rand.NewSource(11))
	for n := range 300 {
		junk := make([]byte, n)
		r.Read(junk)
		for _, name := range names {
			d.Write(name, string(junk))
		}
		j.has(t, j.start(t, d), 0, 0)
	}
}

// TestP11Down: a disk that goes down at any moment of Start.
func TestP11Down(t *testing.T) {
	j := plainJob(t, 9, 4)
	d := disk.New()
	d.Limit(0, -1)
	if x, e := Start(j.c, j.data, d); x != nil || e != api.ErrDisk {
		t.Errorf("an empty disk: %v, %d", x, e)
	}
	d.Limit(-1, -1)
	j.start(t, d).Work(5)
	for left := range 10 {
		d.Limit(left, -1)
		x, e := Start(j.c, j.data, d)
		if e == api.OK && left > 0 {
			j.has(t, x, 4, 4)
			return
		}
		if x != nil || e != api.ErrDisk {
			t.Errorf("%d operations: %v, %d", left, x, e)
		}
	}
	t.Errorf("Start takes 10 operations or more")
}

// TestP11NoRoom: Start needs no room, whatever it finds.
func TestP11NoRoom(t *testing.T) {
	j := plainJob(t, 9, 4)
	d := disk.New()
	d.Limit(-1, 0)
	j.has(t, j.start(t, d), 0, 0)
	d.Limit(-1, -1)
	j.start(t, d).Work(5)
	d.Limit(-1, 0)
	j.has(t, j.start(t, d), 4, 4)
}
