package disk

// Step is one thing that is done to one file.
type Step struct {
	name string
	file string
	take func(d *Disk) error
}

// Do takes the steps, one behind the other, up to the first that fails.
func (d *Disk) Do(steps ...Step) error {
	for _, s := range steps {
		if err := d.do(s); err != nil {
			return &Fault{Step: s.name, File: s.file, Err: err}
		}
	}
	return nil
}

// do takes one step, which is counted even if it finds no room.
func (d *Disk) do(s Step) error {
	if err := d.count(); err != nil {
		return err
	}
	return s.take(d)
}

// Make makes a file that has no bytes; what had the name is lost.
func Make(name string) Step {
	return Step{name: "make", file: name, take: func(d *Disk) error {
		d.files[name] = &file{}
		return nil
	}}
}

// Append appends bytes to a file, all of them or none.
func Append(name string, bytes []byte) Step {
	return onFile("append", name, func(d *Disk, f *file) error {
		if len(bytes) > d.room-d.used() {
			return ErrRoom
		}
		f.bytes = append(f.bytes, bytes...)
		return nil
	})
}

// Cut cuts a file behind so many bytes; that lasts at once.
func Cut(name string, size int) Step {
	return onFile("cut", name, func(_ *Disk, f *file) error {
		f.cut(size)
		return nil
	})
}

// Sync syncs all bytes of a file.
func Sync(name string) Step {
	return onFile("sync", name, func(_ *Disk, f *file) error {
		f.sync()
		return nil
	})
}

// Rename gives a file another name; what had that name is lost.
func Rename(name, to string) Step {
	return onFile("rename", name, func(d *Disk, f *file) error {
		delete(d.files, name)
		d.files[to] = f
		return nil
	})
}

// Remove takes a file away.
func Remove(name string) Step {
	return onFile("remove", name, func(d *Disk, _ *file) error {
		delete(d.files, name)
		return nil
	})
}

// onFile is a step on a file that must be there.
func onFile(step, name string, take func(d *Disk, f *file) error) Step {
	return Step{name: step, file: name, take: func(d *Disk) error {
		f, err := d.find(name)
		if err != nil {
			return err
		}
		return take(d, f)
	}}
}
