package store

import (
	"errors"
	"strings"
	"testing"

	"tutor/api"
	"tutor/disk"
)

const old, young = "what was saved first", "what was saved behind it, and is longer"

// find is what Find tells of a disk that is not down.
func find(t *testing.T, d *disk.Disk) string {
	t.Helper()
	s, err := Find(d, 1)
	if err != nil {
		t.Fatalf("Find: %v", err)
	}
	return s
}

// with is a disk on which the old text is saved.
func with(t *testing.T) *disk.Disk {
	t.Helper()
	d := disk.New()
	if err := Save(d, 1, old); err != nil {
		t.Fatalf("Save: %v", err)
	}
	return d
}

// TestP11Find: nothing, the text saved last, and a disk that is down.
func TestP11Find(t *testing.T) {
	d := disk.New()
	if s := find(t, d); s != "" {
		t.Errorf("on an empty disk: %q", s)
	}
	for _, s := range []string{old, young, old} {
		if err := Save(d, 1, s); err != nil || find(t, d) != s {
			t.Errorf("%q, %v, want %q", find(t, d), err, s)
		}
	}
	d.Limit(0, -1)
	s, err := Find(d, 7)
	if s != "" {
		t.Errorf("on a disk that is down: %q", s)
	}
	holds(t, err, api.ErrDown, 7, reading)
}

// TestP15Names: there is one name behind a Save, never more than two in it, and no file is much longer than its text.
func TestP15Names(t *testing.T) {
	d := disk.New()
	Save(d, 1, old)
	for left := range 4 {
		d.Limit(left, -1)
		Save(d, 2, young)
		d.Limit(-1, -1)
		names, _ := d.Names()
		if len(names) > 2 {
			t.Errorf("behind %d operations: %v", left, names)
		}
		for _, name := range names {
			if s, _ := d.Read(name); len(s) > len(young)+64 {
				t.Errorf("behind %d operations: %s has %d bytes", left, name, len(s))
			}
		}
	}
	Save(d, 2, young)
	if names, _ := d.Names(); len(names) != 1 {
		t.Errorf("%v", names)
	}
}

// TestP16Failure: which act failed, at which step, and what the disk told.
func TestP16Failure(t *testing.T) {
	for left, doing := range []int{api.Writing, api.Syncing, api.Renaming, api.Naming} {
		d := with(t)
		d.Limit(left, -1)
		holds(t, Save(d, 40+left, young), api.ErrDown, 40+left, doing)
	}
	for left, doing := range []int{api.Syncing, api.Naming} {
		d := with(t)
		d.Limit(left, -1)
		holds(t, Keep(d, 50+left), api.ErrDown, 50+left, doing)
	}
	d := with(t)
	d.Limit(-1, len(sealed(old))+len(sealed(young))-1)
	holds(t, Save(d, 60, young), api.ErrFull, 60, api.Writing)
	if s := find(t, d); s != old {
		t.Errorf("too little room: %q", s)
	}
	d.Limit(4, len(sealed(old))+len(sealed(young)))
	if err := Save(d, 61, young); err != nil {
		t.Errorf("just enough room and operations: %v", err)
	}
}

// holds: an error is of this kind.
func holds(t *testing.T, err error, told api.Errno, step int, doing int) {
	t.Helper()
	var f *Failure
	if !errors.As(err, &f) || f.Step != step || f.Doing != doing || !errors.Is(err, told) {
		t.Errorf("%v, want %d at step %d, doing %d", err, told, step, doing)
	}
	if f != nil && !strings.Contains(f.Error(), told.Error()) {
		t.Errorf("%q does not tell %q", f.Error(), told.Error())
	}
}

// TestP13Crash: wherever the power fails in a Save, what is found is whole: the old text, or the young one.
func TestP13Crash(t *testing.T) {
	for _, first := range []string{"", old} {
		for left := range 5 {
			for keep := -1; keep < 4; keep++ {
				for torn := -1; torn <= len(sealed(young))+1; torn++ {
					d := disk.New()
					if first != "" {
						Save(d, 1, first)
					}
					d.Limit(left, -1)
					err := Save(d, 2, young)
					d.Crash(keep, torn)
					if s := find(t, d); s != young && (err == nil || s != first) {
						t.Fatalf("%d operations, %d names kept, torn at %d: %q", left, keep, torn, s)
					}
				}
			}
		}
	}
}

// TestP13Keep: what a Save that failed at its end has left is found, and lasts from Keep on.
func TestP13Keep(t *testing.T) {
	d := with(t)
	d.Limit(3, -1)
	Save(d, 2, young)
	d.Limit(-1, -1)
	if s := find(t, d); s != young {
		t.Fatalf("ahead of Keep: %q", s)
	}
	if err := Keep(d, 2); err != nil {
		t.Fatalf("Keep: %v", err)
	}
	d.Crash(0, 0)
	if s := find(t, d); s != young {
		t.Errorf("behind Keep: %q", s)
	}
}

// TestP13KeepText: Keep asks nothing of how the text came there.
func TestP13KeepText(t *testing.T) {
	d := disk.New()
	d.Write(saved, sealed(old))
	if err := Keep(d, 2); err != nil {
		t.Fatalf("Keep: %v", err)
	}
	d.Crash(0, 0)
	if s := find(t, d); s != old {
		t.Errorf("%q", s)
	}
}
