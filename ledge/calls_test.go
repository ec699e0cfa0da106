package ledge_test

import (
	"math"
	"math/rand"
	"slices"
	"strings"
	"testing"

	"ledge/api"
	"ledge/ledge"
)

// A second telling of a disk: all calls of all kinds, each answer and all files
// held against it.

type modelDisk struct {
	room        int
	files       map[string]string
	synced      map[string]int
	down, fails bool
	steps, keep int // if it fails
	open        bool
	most        int
	waiting     []string
}

func newModel(room int) *modelDisk {
	return &modelDisk{room: room, files: map[string]string{}, synced: map[string]int{}}
}

func (m *modelDisk) powerOff(keep int) {
	for name, b := range m.files {
		rest := b[m.synced[name]:]
		if len(rest) > keep {
			rest = rest[:keep]
		}
		m.files[name] = b[:m.synced[name]] + rest
		m.synced[name] += len(rest)
	}
	m.down, m.fails, m.open, m.waiting = true, false, false, nil
}

// step: whether power holds for one more.
func (m *modelDisk) step() bool {
	if m.fails && m.steps == 0 {
		m.powerOff(m.keep)
		return false
	}
	m.steps--
	return true
}

func (m *modelDisk) make(name string) api.Errno {
	if !m.step() {
		return api.ErrPower
	}
	m.files[name], m.synced[name] = "", 0
	return api.OK
}

func (m *modelDisk) append(name, bytes string) api.Errno {
	if !m.step() {
		return api.ErrPower
	}
	all := len(bytes)
	for _, b := range m.files {
		all += len(b)
	}
	if all > m.room {
		return api.ErrRoom
	}
	m.files[name] += bytes
	return api.OK
}

func (m *modelDisk) sync(name string) api.Errno {
	if !m.step() {
		return api.ErrPower
	}
	m.synced[name] = len(m.files[name])
	return api.OK
}

func (m *modelDisk) create(c api.Config) api.Errno {
	if c.Block < 1 || c.Block > 400 || c.Seed < 0 || c.Seed > topSeed || c.Bits < 0 || c.Bits > 32 {
		return api.ErrArg
	}
	if m.down {
		return api.ErrDown
	}
	if _, there := m.files["log"]; there {
		return api.ErrThere
	}
	e := m.make("log")
	if e == api.OK {
		e = m.append("log", head(c.Block, c.Seed, c.Bits))
	}
	if e == api.OK {
		e = m.sync("log")
	}
	if e == api.OK {
		m.open, m.most = true, c.Block
	}
	return e
}

func (m *modelDisk) write() api.Errno {
	if len(m.waiting) == 0 {
		return api.OK
	}
	e := m.append("log", block(m.waiting...))
	if e == api.OK {
		m.waiting = nil
	}
	return e
}

func (m *modelDisk) add(kind, key, value string) api.Errno {
	if len(key) < 1 || len(key) > 20 || len(value) > 30 {
		return api.ErrArg
	}
	if m.down {
		return api.ErrDown
	}
	if !m.open {
		return api.ErrNone
	}
	e := entry(kind, key, value)
	if len(strings.Join(m.waiting, "")+e) > m.most || len(m.waiting) == 255 {
		if e := m.write(); e != api.OK {
			return e
		}
	}
	m.waiting = append(m.waiting, e)
	return api.OK
}

func (m *modelDisk) flush() api.Errno {
	if m.down {
		return api.ErrDown
	}
	if !m.open {
		return api.ErrNone
	}
	if e := m.write(); e != api.OK {
		return e
	}
	return m.sync("log")
}

func (m *modelDisk) build() api.Errno {
	if m.down {
		return api.ErrDown
	}
	log, there := m.files["log"]
	if !there {
		return api.ErrNone
	}
	ix, e := modelIndex(log)
	if e == api.OK {
		e = m.make("new")
	}
	if e == api.OK {
		e = m.append("new", ix)
	}
	if e == api.OK {
		e = m.sync("new")
	}
	if e != api.OK {
		return e
	}
	if !m.step() {
		return api.ErrPower
	}
	m.files["index"], m.synced["index"] = m.files["new"], m.synced["new"]
	delete(m.files, "new")
	delete(m.synced, "new")
	return api.OK
}

func (m *modelDisk) get(key string) (string, api.Errno) {
	if m.down {
		return "", api.ErrDown
	}
	log, one := m.files["log"]
	ix, two := m.files["index"]
	if !one || !two {
		return "", api.ErrNone
	}
	value, _, e := modelLook(log, ix, key)
	return value, e
}

func (m *modelDisk) all() ([]api.Item, api.Errno) {
	// Of an index that is not old, a look for any key tells what All answers.
	if _, e := m.get("a"); e == api.ErrDown || e == api.ErrForm || e == api.ErrOld || m.files["index"] == "" {
		return nil, e
	}
	var items []api.Item
	for _, e := range modelEntries(m.files["log"]) {
		items = slices.DeleteFunc(items, func(i api.Item) bool { return i.Key == e.key })
		if e.kind == 'p' {
			items = append(items, api.Item{Key: e.key, Value: e.value})
		}
	}
	return items, api.OK
}

func (m *modelDisk) fail(steps, keep int) api.Errno {
	if steps < 0 || keep < 0 {
		return api.ErrArg
	}
	if m.down {
		return api.ErrDown
	}
	m.fails, m.steps, m.keep = true, steps, keep
	if steps == 0 {
		m.powerOff(keep)
	}
	return api.OK
}

func (m *modelDisk) start() api.Errno {
	if !m.down {
		return api.ErrArg
	}
	m.down = false
	return api.OK
}

func (m *modelDisk) mend() api.Errno {
	if m.down {
		return api.ErrDown
	}
	log, there := m.files["log"]
	if !there {
		return api.ErrNone
	}
	most, _, _, ok := modelHead(log)
	if !ok {
		return api.ErrForm
	}
	if whole := modelWhole(log); whole != log {
		if !m.step() {
			return api.ErrPower
		}
		m.files["log"], m.synced["log"] = whole, min(len(whole), m.synced["log"])
	}
	if e := m.sync("log"); e != api.OK {
		return e
	}
	want, _ := modelIndex(m.files["log"])
	if ix, there := m.files["index"]; there && ix != want {
		if !m.step() {
			return api.ErrPower
		}
		delete(m.files, "index")
		delete(m.synced, "index")
	}
	m.open, m.most, m.waiting = true, most, nil
	return api.OK
}

// tried is a disk beside its model.
type tried struct {
	s *ledge.Store
	m *modelDisk
}

func randomConfig(r *rand.Rand) api.Config {
	if r.Intn(4) == 0 {
		return wrongConfigs[r.Intn(len(wrongConfigs))]
	}
	return api.Config{Block: []int{1, 5, 20, 60, 400}[r.Intn(5)], Seed: r.Intn(9), Bits: []int{0, 2, 32}[r.Intn(3)]}
}

// powerCall makes a call of Fail, Start or Mend: more often one of which
// something comes.
func (d tried) powerCall(r *rand.Rand) (string, api.Errno, api.Errno) {
	kind := r.Intn(4)
	if d.m.down && r.Intn(2) == 0 {
		kind = 1
	}
	switch kind {
	case 0:
		steps := []int{-1, 0, 1, 2, 3, 4, 5, 6, 9, math.MaxInt}[r.Intn(10)]
		keep := []int{math.MinInt, 0, 1, 5, 15, 40, math.MaxInt}[r.Intn(7)]
		return "Fail", d.s.Fail(steps, keep), d.m.fail(steps, keep)
	case 1:
		return "Start", d.s.Start(), d.m.start()
	default:
		return "Mend", d.s.Mend(), d.m.mend()
	}
}

// call makes one call, whichever, and tells its name, its answer, and the
// model's.
func (d tried) call(t *testing.T, r *rand.Rand) (string, api.Errno, api.Errno) {
	t.Helper()
	key, value := randomKey(r), strings.Repeat("v", r.Intn(31))
	if r.Intn(20) == 0 {
		key, value = strings.Repeat("k", r.Intn(25)), strings.Repeat("v", r.Intn(40))
	}
	_, there := d.m.files["log"]
	switch {
	case !there && r.Intn(3) == 0:
		c := randomConfig(r)
		return "Create", d.s.Create(c), d.m.create(c)
	case there && !d.m.open && r.Intn(3) == 0, r.Intn(20) == 0:
		return d.powerCall(r)
	}
	switch r.Intn(20) {
	case 0:
		c := randomConfig(r)
		return "Create", d.s.Create(c), d.m.create(c)
	case 1, 2, 3, 4:
		return "Delete", d.s.Delete(key), d.m.add("d", key, "")
	case 5, 6:
		return "Flush", d.s.Flush(), d.m.flush()
	case 7, 8, 9:
		return "Build", d.s.Build(), d.m.build()
	case 10, 11:
		v, e := d.s.Get(key)
		mv, me := d.m.get(key)
		if v != mv {
			t.Fatalf("Get(%q) = %q, %d, want %q, %d", key, v, e, mv, me)
		}
		return "Get", e, me
	case 12:
		l, e := d.s.All(nil)
		ml, me := d.m.all()
		if !slices.Equal(l, ml) {
			t.Fatalf("All = %v, %d, want %v, %d", l, e, ml, me)
		}
		return "All", e, me
	default:
		return "Put", d.s.Put(key, value), d.m.add("p", key, value)
	}
}

func (d tried) wantSameFiles(t *testing.T, behind string) {
	t.Helper()
	for _, name := range []string{"log", "new", "index"} {
		b, e := d.s.File(name)
		want, there := d.m.files[name]
		wantE := api.OK
		switch {
		case d.m.down:
			want, wantE = "", api.ErrDown
		case !there:
			wantE = api.ErrNone
		}
		if b != want || e != wantE {
			t.Fatalf("behind %s: File(%q) = %q, %d, want %q, %d", behind, name, b, e, want, wantE)
		}
	}
}

// P1, P5 to P10: three disks side by side, all calls of all kinds.
func TestCallsAsTheModel(t *testing.T) {
	r := rand.New(rand.NewSource(5))
	answers := map[string]map[api.Errno]int{}
	for range 800 {
		var disks []tried
		for range 3 {
			room := []int{0, 20, 50, 200, 500, 5000}[r.Intn(6)] + r.Intn(20)
			disks = append(disks, tried{newDisk(t, room), newModel(room)})
		}
		for range 200 {
			name, e, want := disks[r.Intn(3)].call(t, r)
			if e != want {
				t.Fatalf("%s = %d, want %d", name, e, want)
			}
			for _, d := range disks {
				d.wantSameFiles(t, name)
			}
			if answers[name] == nil {
				answers[name] = map[api.Errno]int{}
			}
			answers[name][e]++
		}
	}
	for name, all := range map[string][]api.Errno{
		"Create": {api.OK, api.ErrArg, api.ErrDown, api.ErrThere, api.ErrRoom, api.ErrPower},
		"Put":    {api.OK, api.ErrArg, api.ErrDown, api.ErrNone, api.ErrRoom, api.ErrPower},
		"Delete": {api.OK, api.ErrArg, api.ErrDown, api.ErrNone, api.ErrRoom, api.ErrPower},
		"Flush":  {api.OK, api.ErrDown, api.ErrNone, api.ErrRoom, api.ErrPower},
		"Build":  {api.OK, api.ErrDown, api.ErrNone, api.ErrForm, api.ErrRoom, api.ErrPower},
		"Get":    {api.OK, api.ErrDown, api.ErrNone, api.ErrOld},
		"All":    {api.OK, api.ErrDown, api.ErrNone, api.ErrOld},
		"Fail":   {api.OK, api.ErrArg, api.ErrDown},
		"Start":  {api.OK, api.ErrArg},
		"Mend":   {api.OK, api.ErrDown, api.ErrNone, api.ErrForm, api.ErrPower},
	} {
		for _, e := range all {
			if answers[name][e] == 0 {
				t.Errorf("no %s was answered by %d: the calls are too much of one kind", name, e)
			}
		}
	}
}
