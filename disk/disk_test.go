package disk

import (
	"math"
	"slices"
	"strings"
	"testing"

	"tutor/api"
)

// odd are names that are none, or that a disk may trip over.
var odd = []string{"", "a", "\x00", "\xff\xfe", strings.Repeat("n", api.MaxName), strings.Repeat("n", api.MaxName+1)}

// whole are numbers at which a count or a place may go wrong.
var whole = []int{math.MinInt, -1, 0, 1, 3, 4, 5, math.MaxInt - 3, math.MaxInt}

// TestP1AllEnd: no call of a disk panics, in whatever state it is.
func TestP1AllEnd(t *testing.T) {
	d := New()
	for _, n := range whole {
		for _, m := range whole {
			for _, name := range odd {
				d.Limit(n, m)
				d.Write(name, "12345")
				d.Sync(name)
				d.Write(name, "1")
				d.Bend(name, n, math.MaxUint32)
				d.Rename(name, odd[1])
				d.Rename(odd[1], name)
				d.Read(name)
				d.Names()
				d.Remove(odd[4])
				d.SyncNames()
			}
			d.Crash(n, m)
		}
	}
}

// TestP1ErrorAlone: beside an error there is nothing else.
func TestP1ErrorAlone(t *testing.T) {
	d := New()
	d.Write("a", "text")
	if s, e := d.Read("b"); s != "" || e != api.ErrName {
		t.Errorf("P1: Read of no file = %q, %d", s, e)
	}
	d.Limit(0, -1)
	if s, e := d.Read("a"); s != "" || e != api.ErrDown {
		t.Errorf("P1: Read of a disk that is down = %q, %d", s, e)
	}
	if l, e := d.Names(); l != nil || e != api.ErrDown {
		t.Errorf("P1: Names of a disk that is down = %q, %d", l, e)
	}
	if e := d.Write("", "text"); e != api.ErrDown {
		t.Errorf("P1: a wrong name on a disk that is down = %d, want the error named first", e)
	}
}

// TestP1Apart: what is done to one disk is not seen on another.
func TestP1Apart(t *testing.T) {
	a, b := New(), New()
	b.Write("kept", "text")
	a.Write("kept", "other")
	a.Remove("kept")
	a.Crash(0, 0)
	a.Limit(0, 0)
	if s, e := b.Read("kept"); s != "text" || e != api.OK {
		t.Errorf("P1: the other disk's file is %q, %d", s, e)
	}
	if l, e := b.Names(); !slices.Equal(l, []string{"kept"}) || e != api.OK {
		t.Errorf("P1: the other disk's names are %q, %d", l, e)
	}
}
