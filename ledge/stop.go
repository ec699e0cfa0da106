package ledge

import "sync"

// Stop stops All.
type Stop struct {
	once   sync.Once // a channel can be closed only once
	called chan struct{}
}

// NewStop makes a stop that was not called (P7).
func NewStop() *Stop { return &Stop{called: make(chan struct{})} }

// Stop calls it (P7).
func (p *Stop) Stop() {
	p.once.Do(func() { close(p.called) })
}

// wasCalled tells whether a stop was called; a nil one never is.
func (p *Stop) wasCalled() bool {
	if p == nil {
		return false
	}
	select {
	case <-p.called:
		return true
	default:
		return false
	}
}
