package ledge

import (
	"ledge/api"
	"ledge/disk"
	"ledge/record"
	"ledge/table"
)

// Fail lets power fail (P8).
func (s *Store) Fail(steps, keep int) api.Errno {
	if steps < 0 || keep < 0 {
		return api.ErrArg
	}
	if err := s.disk.Fail(steps, keep); err != nil {
		return answer(err)
	}
	if steps == 0 { // it has failed by now
		s.waiting = nil
	}
	return api.OK
}

// Start starts the disk again (P8).
func (s *Store) Start() api.Errno { return answer(s.disk.Start()) }

// Mend cuts the log behind its last whole block, and opens it (P8).
func (s *Store) Mend() api.Errno {
	log, err := s.disk.Read(fileLog)
	if err != nil {
		return answer(err)
	}
	c, ok := record.ReadHead(log)
	if !ok {
		return api.ErrForm
	}
	return s.open(c, s.mending(log, record.Whole(log, c))...)
}

// mending tells the steps behind which the log is no more than what of it is
// whole, and an index that is there is the log's.
func (s *Store) mending(log, whole string) []disk.Step {
	var steps []disk.Step
	if whole != log {
		steps = append(steps, disk.Cut(fileLog, len(whole)))
	}
	steps = append(steps, disk.Sync(fileLog))
	index, err := s.disk.Read(fileIndex)
	if err != nil { // there is none
		return steps
	}
	if _, e := table.Said(whole, index); e != api.OK {
		steps = append(steps, disk.Remove(fileIndex))
	}
	return steps
}
