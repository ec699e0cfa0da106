package ledge_test

import (
	"math/rand"
	"slices"
	"strings"
	"testing"

	"ledge/api"
	"ledge/ledge"
)

// A second telling of a disk: all calls of all kinds, each answer and all files
// held against it.

type modelDisk struct {
	room    int
	files   map[string]string
	open    bool
	most    int
	waiting []string
}

func (m *modelDisk) append(name, bytes string) api.Errno {
	all := len(bytes)
	for _, b := range m.files {
		all += len(b)
	}
	if all > m.room {
		return api.ErrRoom
	}
	m.files[name] += bytes
	return api.OK
}

func (m *modelDisk) create(c api.Config) api.Errno {
	if c.Block < 1 || c.Block > 400 || c.Seed < 0 || c.Seed > topSeed || c.Bits < 0 || c.Bits > 32 {
		return api.ErrArg
	}
	if _, there := m.files["log"]; there {
		return api.ErrThere
	}
	m.files["log"] = ""
	e := m.append("log", head(c.Block, c.Seed, c.Bits))
	if e == api.OK {
		m.open, m.most = true, c.Block
	}
	return e
}

func (m *modelDisk) write() api.Errno {
	if len(m.waiting) == 0 {
		return api.OK
	}
	e := m.append("log", block(m.waiting...))
	if e == api.OK {
		m.waiting = nil
	}
	return e
}

func (m *modelDisk) add(kind, key, value string) api.Errno {
	if len(key) < 1 || len(key) > 20 || len(value) > 30 {
		return api.ErrArg
	}
	if !m.open {
		return api.ErrNone
	}
	e := entry(kind, key, value)
	if len(strings.Join(m.waiting, "")+e) > m.most || len(m.waiting) == 255 {
		if e := m.write(); e != api.OK {
			return e
		}
	}
	m.waiting = append(m.waiting, e)
	return api.OK
}

func (m *modelDisk) flush() api.Errno {
	if !m.open {
		return api.ErrNone
	}
	return m.write()
}

func (m *modelDisk) build() api.Errno {
	log, there := m.files["log"]
	if !there {
		return api.ErrNone
	}
	ix, e := modelIndex(log)
	if e != api.OK {
		return e
	}
	m.files["new"] = ""
	if e := m.append("new", ix); e != api.OK {
		return e
	}
	m.files["index"] = m.files["new"]
	delete(m.files, "new")
	return api.OK
}

func (m *modelDisk) get(key string) (string, api.Errno) {
	log, one := m.files["log"]
	ix, two := m.files["index"]
	if !one || !two {
		return "", api.ErrNone
	}
	value, _, e := modelLook(log, ix, key)
	return value, e
}

func (m *modelDisk) all() ([]api.Item, api.Errno) {
	// Of an index that is not old, a look for any key tells what All answers.
	if _, e := m.get("a"); e == api.ErrForm || e == api.ErrOld || m.files["index"] == "" {
		return nil, e
	}
	log := m.files["log"]
	var items []api.Item
	for at := 14; at < len(log); {
		entries, size := modelBlock(log[at:], m.most)
		for _, e := range entries {
			items = slices.DeleteFunc(items, func(i api.Item) bool { return i.Key == e.key })
			if e.kind == 'p' {
				items = append(items, api.Item{Key: e.key, Value: e.value})
			}
		}
		at += size
	}
	return items, api.OK
}

// tried is a disk beside its model.
type tried struct {
	s *ledge.Store
	m *modelDisk
}

func randomConfig(r *rand.Rand) api.Config {
	if r.Intn(4) == 0 {
		return wrongConfigs[r.Intn(len(wrongConfigs))]
	}
	return api.Config{Block: []int{1, 5, 20, 60, 400}[r.Intn(5)], Seed: r.Intn(9), Bits: []int{0, 2, 32}[r.Intn(3)]}
}

// call makes one call, whichever, and tells its name, its answer, and the
// model's.
func (d tried) call(t *testing.T, r *rand.Rand) (string, api.Errno, api.Errno) {
	t.Helper()
	key, value := randomKey(r), strings.Repeat("v", r.Intn(31))
	if r.Intn(20) == 0 {
		key, value = strings.Repeat("k", r.Intn(25)), strings.Repeat("v", r.Intn(40))
	}
	switch r.Intn(20) {
	case 0:
		c := randomConfig(r)
		return "Create", d.s.Create(c), d.m.create(c)
	case 1, 2, 3, 4:
		return "Delete", d.s.Delete(key), d.m.add("d", key, "")
	case 5, 6:
		return "Flush", d.s.Flush(), d.m.flush()
	case 7, 8, 9:
		return "Build", d.s.Build(), d.m.build()
	case 10, 11:
		v, e := d.s.Get(key)
		mv, me := d.m.get(key)
		if v != mv {
			t.Fatalf("Get(%q) = %q, %d, want %q, %d", key, v, e, mv, me)
		}
		return "Get", e, me
	case 12:
		l, e := d.s.All(nil)
		ml, me := d.m.all()
		if !slices.Equal(l, ml) {
			t.Fatalf("All = %v, %d, want %v, %d", l, e, ml, me)
		}
		return "All", e, me
	default:
		return "Put", d.s.Put(key, value), d.m.add("p", key, value)
	}
}

func (d tried) wantSameFiles(t *testing.T, behind string) {
	t.Helper()
	for _, name := range []string{"log", "new", "index"} {
		b, e := d.s.File(name)
		mb, there := d.m.files[name]
		if b != mb || there != (e == api.OK) || !there != (e == api.ErrNone) {
			t.Fatalf("behind %s: File(%q) = %q, %d, want %q, %t", behind, name, b, e, mb, there)
		}
	}
}

// P1, P5 to P9: three disks side by side, all calls of all kinds.
func TestCallsAsTheModel(t *testing.T) {
	r := rand.New(rand.NewSource(5))
	answers := map[string]map[api.Errno]int{}
	for range 300 {
		var disks []tried
		for range 3 {
			room := []int{0, 20, 50, 200, 500, 5000}[r.Intn(6)] + r.Intn(20)
			disks = append(disks, tried{newDisk(t, room), &modelDisk{room: room, files: map[string]string{}}})
		}
		for range 200 {
			name, e, want := disks[r.Intn(3)].call(t, r)
			if e != want {
				t.Fatalf("%s = %d, want %d", name, e, want)
			}
			for _, d := range disks {
				d.wantSameFiles(t, name)
			}
			if answers[name] == nil {
				answers[name] = map[api.Errno]int{}
			}
			answers[name][e]++
		}
	}
	for name, all := range map[string][]api.Errno{
		"Create": {api.OK, api.ErrArg, api.ErrThere, api.ErrRoom},
		"Put":    {api.OK, api.ErrArg, api.ErrNone, api.ErrRoom},
		"Delete": {api.OK, api.ErrArg, api.ErrNone, api.ErrRoom},
		"Flush":  {api.OK, api.ErrNone, api.ErrRoom},
		"Build":  {api.OK, api.ErrNone, api.ErrForm, api.ErrRoom},
		"Get":    {api.OK, api.ErrNone, api.ErrOld},
		"All":    {api.OK, api.ErrNone, api.ErrOld},
	} {
		for _, e := range all {
			if answers[name][e] == 0 {
				t.Errorf("no %s was answered by %d: the calls are too much of one kind", name, e)
			}
		}
	}
}
