package disk

import "errors"

// What a step may fail by.
var (
	ErrRoom   = errors.New("there is no room")
	ErrNoFile = errors.New("there is no such file")
)

// Fault tells which step failed, on which file, and by what.
type Fault struct {
	Step, File string
	Err        error
}

// Error tells all of it.
func (f *Fault) Error() string { return f.Step + " " + f.File + ": " + f.Err.Error() }

// Unwrap tells what the step failed by.
func (f *Fault) Unwrap() error { return f.Err }
