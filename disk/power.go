package disk

// failure is a failure of power that is to come.
type failure struct {
	steps int // so many are taken ahead of it
	keep  int // so many bytes of each file are left that are not synced
}

// Fail lets power fail in place of the step that comes behind so many more;
// behind none, at once. A failure that was to come does not come any more.
func (d *Disk) Fail(steps, keep int) error {
	if d.down {
		return &Fault{Step: "fail", Err: ErrDown}
	}
	d.coming = &failure{steps: steps, keep: keep}
	if steps == 0 {
		d.goDown()
	}
	return nil
}

// Start lets a disk that is down be up.
func (d *Disk) Start() error {
	if !d.down {
		return &Fault{Step: "start", Err: ErrUp}
	}
	d.down = false
	return nil
}

// count counts a step that is to be taken; it fails, if power does so in the
// step's place.
func (d *Disk) count() error {
	switch {
	case d.down:
		return ErrDown
	case d.coming == nil:
		return nil
	case d.coming.steps == 0:
		d.goDown()
		return ErrPower
	}
	d.coming.steps--
	return nil
}

// goDown is the failure that was to come.
func (d *Disk) goDown() {
	for _, f := range d.files {
		f.lose(d.coming.keep)
	}
	d.coming, d.down = nil, true
}

// lose loses what is not synced, but so many bytes, which are synced then.
func (f *file) lose(keep int) {
	f.cut(f.synced + min(keep, len(f.bytes)-f.synced)) // keep may be as great as a number can be
	f.sync()
}
