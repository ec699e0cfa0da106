// Package disk: a disk that has files, and the steps that are taken on it.
package disk

// file is a file's bytes.
type file struct {
	bytes  []byte
	synced int // so many of them, from the first on, last if power fails
}

// Disk has files, whose bytes are together at most its room.
type Disk struct {
	room  int
	files map[string]*file
}

// New makes a disk that has no file.
func New(room int) *Disk {
	return &Disk{room: room, files: map[string]*file{}}
}

// Has tells whether there is a file of this name.
func (d *Disk) Has(name string) bool {
	_, err := d.find(name)
	return err == nil
}

// Read tells a file's bytes. It is no step, but fails as one does.
func (d *Disk) Read(name string) (string, error) {
	f, err := d.find(name)
	if err != nil {
		return "", &Fault{Step: "read", File: name, Err: err}
	}
	return string(f.bytes), nil
}

func (d *Disk) find(name string) (*file, error) {
	f, ok := d.files[name]
	if !ok {
		return nil, ErrNoFile
	}
	return f, nil
}

// used tells how many bytes all files have.
func (d *Disk) used() int {
	n := 0
	for _, f := range d.files {
		n += len(f.bytes)
	}
	return n
}
