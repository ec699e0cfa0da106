package disk

import "errors"

// What a step may fail by, or what else is asked of a disk.
var (
	ErrRoom   = errors.New("there is no room")
	ErrNoFile = errors.New("there is no such file")
	ErrDown   = errors.New("the disk is down")
	ErrUp     = errors.New("the disk is up")
	ErrPower  = errors.New("power has failed")
)

// Fault tells which step failed, on which file (none, if it is of the whole
// disk), and by what.
type Fault struct {
	Step, File string
	Err        error
}

// Error tells all of it.
func (f *Fault) Error() string {
	what := f.Step
	if f.File != "" {
		what += " " + f.File
	}
	return what + ": " + f.Err.Error()
}

// Unwrap tells what the step failed by.
func (f *Fault) Unwrap() error { return f.Err }
