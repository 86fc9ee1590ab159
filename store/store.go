// Package store: keeps what was saved last on a disk that may fail at any moment: see DOC.md.
package store

import (
	"tutor/api"
	"tutor/disk"
)

// What was saved last is looked for under the one name, what comes next is written under the other, and is renamed when it is whole: so what is found is never torn.
const (
	saved  = "saved"
	coming = "coming"
)

// Find tells the text that was saved last; it is empty if there is none, or if it was bent. It fails just if the disk is down; the step is told then.
func Find(d *disk.Disk, step int) (string, error) {
	file, e := d.Read(saved)
	if e == api.ErrDown {
		return "", &Failure{Doing: reading, Step: step, Err: e}
	}
	return unsealed(file), nil
}

// Save puts a text in the place of what was saved last. The step is told if it fails.
func Save(d *disk.Disk, step int, text string) error {
	return inTurn(step,
		act{api.Writing, func() api.Errno { return d.Write(coming, sealed(text)) }},
		act{api.Syncing, func() api.Errno { return d.Sync(coming) }},
		act{api.Renaming, func() api.Errno { return d.Rename(coming, saved) }},
		act{api.Naming, d.SyncNames})
}

// Keep lets last what Find tells: a Save that failed at its end may have left it where the power can still take it back. The step is told if it fails.
func Keep(d *disk.Disk, step int) error {
	return inTurn(step,
		act{api.Syncing, func() api.Errno { return d.Sync(saved) }},
		act{api.Naming, d.SyncNames})
}

// act is something to be done with a disk, and which kind of thing it is.
type act struct {
	doing int
	do    func() api.Errno
}

// inTurn does one act after the other, up to the first that fails.
func inTurn(step int, acts ...act) error {
	for _, a := range acts {
		if e := a.do(); e != api.OK {
			return &Failure{Doing: a.doing, Step: step, Err: e}
		}
	}
	return nil
}
