package tutor

import (
	"errors"
	"sync"

	"tutor/disk"
	"tutor/store"
)

// Trainer trains a net, and saves what it has.
type Trainer struct {
	training *training
	disk     *disk.Disk
	state    *state
	saved    int   // the steps of the state saved last, or found
	failed   error // what made it spent
}

// resume begins with the state that is found on the disk, or with the first one.
func (x *Trainer) resume() error {
	x.state = x.training.begin()
	s, err := x.found()
	if err != nil || s == nil {
		return err
	}
	x.state, x.saved = s, s.steps
	return store.Keep(x.disk, s.steps)
}

// found is the state that is saved on the disk; nil: there is none.
func (x *Trainer) found() (*state, error) {
	text, err := store.Find(x.disk, x.state.steps)
	if err != nil {
		return nil, err
	}
	return x.training.read(text), nil
}

// work does so many steps, and saves where it is due.
func (x *Trainer) work(steps int) error {
	if steps < 1 {
		return nil
	}
	batch := x.training.c.Batch
	place := x.state.steps * batch
	// With room for all, the sender ends even if the training leaves early.
	numbers := make(chan int, steps*batch)
	var sender sync.WaitGroup
	sender.Add(1)
	go func() {
		defer sender.Done()
		x.training.send(numbers, place, place+steps*batch)
	}()
	defer sender.Wait()
	return x.train(numbers)
}

// train does a step with each batch of samples whose numbers come.
func (x *Trainer) train(numbers <-chan int) error {
	var picks []int
	for k := range numbers {
		picks = append(picks, k)
		if len(picks) < x.training.c.Batch {
			continue
		}
		x.training.step(x.state, picks)
		picks = nil
		if err := x.saveIfDue(); err != nil {
			return err
		}
	}
	return nil
}

// saveIfDue saves the state, if it is one to be saved.
func (x *Trainer) saveIfDue() error {
	if !x.training.saves(x.state.steps) {
		return nil
	}
	if err := x.save(); err != nil {
		return err
	}
	x.saved = x.state.steps
	return nil
}

// save lets the disk have this state, or one further on: what another trainer has saved must not be lost.
func (x *Trainer) save() error {
	// If the disk is down, so it is for what comes next, which tells it.
	if s, _ := x.found(); s != nil && s.steps >= x.state.steps {
		return store.Keep(x.disk, x.state.steps)
	}
	return store.Save(x.disk, x.state.steps, x.state.text())
}

// failure is what made the trainer spent; nil: it is not.
func (x *Trainer) failure() *store.Failure {
	var f *store.Failure
	if errors.As(x.failed, &f) {
		return f
	}
	return nil
}
