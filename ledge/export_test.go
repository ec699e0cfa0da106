package ledge

import "ledge/disk"

// Laid: a disk that has these files, all synced: also such as no calls lay
// there.
func Laid(room int, files map[string]string) *Store {
	s := &Store{disk: disk.New(room)}
	for name, bytes := range files {
		s.do(disk.Make(name), disk.Append(name, []byte(bytes)), disk.Sync(name))
	}
	return s
}
