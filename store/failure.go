package store

import "strconv"

// reading is beside what api.Trouble counts: a reading that fails makes no trainer spent.
const reading = 0

// Failure is what the disk told, with what was being done (as in api.Trouble; 0 a reading) and at which step.
type Failure struct {
	Doing int
	Step  int
	Err   error
}

// Error tells all three.
func (f *Failure) Error() string {
	return "doing " + strconv.Itoa(f.Doing) + " at step " + strconv.Itoa(f.Step) + ": " + f.Err.Error()
}

// Unwrap is what the disk told.
func (f *Failure) Unwrap() error { return f.Err }
