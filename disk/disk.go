// Package disk: a disk that has files, the steps that are taken on it, and the
// power that may fail in place of a step.
package disk

// file is a file's bytes.
type file struct {
	bytes  []byte
	synced int // so many of them, from the first on, last if power fails
}

// cut takes away what is behind so many bytes.
func (f *file) cut(size int) {
	f.bytes = f.bytes[:min(size, len(f.bytes))]
	f.synced = min(f.synced, len(f.bytes))
}

// sync syncs all bytes.
func (f *file) sync() { f.synced = len(f.bytes) }

// Disk has files, whose bytes are together at most its room.
type Disk struct {
	room   int
	files  map[string]*file
	down   bool
	coming *failure // nil, if power goes on
}

// New makes a disk that is up and has no file.
func New(room int) *Disk {
	return &Disk{room: room, files: map[string]*file{}}
}

// Has tells whether there is a file of this name. It is no step, but fails on a
// disk that is down.
func (d *Disk) Has(name string) (bool, error) {
	if d.down {
		return false, &Fault{Step: "find", File: name, Err: ErrDown}
	}
	return d.files[name] != nil, nil
}

// Read tells a file's bytes. It is no step, but fails as one does.
func (d *Disk) Read(name string) (string, error) {
	f, err := d.find(name)
	if err != nil {
		return "", &Fault{Step: "read", File: name, Err: err}
	}
	return string(f.bytes), nil
}

func (d *Disk) find(name string) (*file, error) {
	if d.down {
		return nil, ErrDown
	}
	f, ok := d.files[name]
	if !ok {
		return nil, ErrNoFile
	}
	return f, nil
}

// used tells how many bytes all files have.
func (d *Disk) used() int {
	n := 0
	for _, f := range d.files {
		n += len(f.bytes)
	}
	return n
}
