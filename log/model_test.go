package log

import (
	"crypto/sha256"
	"encoding/binary"
	"math/rand"
	"slices"
	"testing"

	"stanchion/api"
	"stanchion/disk"
)

// model is a log on its disk, as the chapter's words go: the areas' bytes are made anew of the records by the words for them.
type model struct {
	areas                  [2]string
	safe                   [2]int
	power                  int
	area, generation, laid int
	records                []string
}

// cutWord: the payload of the frame that s begins with, its sum, and the frame's size; false, if there is no whole one.
func cutWord(s string) (payload, sum string, size int, ok bool) {
	v, n := binary.Uvarint([]byte(s))
	if n <= 0 || num(int(v)) != s[:n] || v > api.MaxField || n+4+int(v) > len(s) {
		return "", "", 0, false
	}
	size = n + 4 + int(v)
	return s[n+4 : size], s[n : n+4], size, true
}

// readWords: an area's generation (0: none), how many were laid, and its records, by the words.
func readWords(s string) (generation, laid int, records []string) {
	payload, _, size, ok := cutWord(s)
	if !ok {
		return 0, 0, nil
	}
	g, n := binary.Uvarint([]byte(payload))
	if n <= 0 || g == 0 || g >= api.MaxNum {
		return 0, 0, nil
	}
	k, n := binary.Uvarint([]byte(payload[n:]))
	if n <= 0 || k >= api.MaxNum || payload != num(int(g))+num(int(k)) || s[:size] != framed(int(g), 0, payload) {
		return 0, 0, nil
	}
	for {
		s = s[size:]
		payload, sum, next, ok := cutWord(s)
		all := sha256.Sum256([]byte(num(int(g)) + num(len(records)+1) + payload))
		if !ok || string(all[:4]) != sum {
			return int(g), int(k), records
		}
		records = append(records, payload)
		size = next
	}
}

// call: what a call of the disk does, if there is power for it.
func (m *model) call(does func()) api.Errno {
	if m.power == 0 {
		return api.ErrDown
	}
	m.power = max(m.power-1, -1)
	does()
	return api.OK
}

func (m *model) trim(area, n int) api.Errno {
	return m.call(func() {
		m.areas[area] = m.areas[area][:n]
		m.safe[area] = min(m.safe[area], n)
	})
}

func (m *model) write(area int, s string) api.Errno {
	return m.call(func() { m.areas[area] += s })
}

func (m *model) sync(area int) api.Errno {
	return m.call(func() { m.safe[area] = len(m.areas[area]) })
}

func (m *model) open() api.Errno {
	m.generation, m.records = 0, nil
	for i, s := range m.areas {
		generation, laid, records := readWords(s)
		if len(records) >= laid && generation > m.generation {
			m.area, m.generation, m.laid, m.records = i, generation, laid, records
		}
	}
	if m.generation == 0 {
		return m.lay(0, 1, nil)
	}
	if whole := written(m.generation, m.laid, m.records...); m.areas[m.area] != whole {
		return m.trim(m.area, len(whole))
	}
	return api.OK
}

func (m *model) lay(area, generation int, list []string) api.Errno {
	if e := m.trim(area, 0); e != api.OK {
		return e
	} else if e := m.write(area, written(generation, len(list), list...)); e != api.OK {
		return e
	} else if e := m.sync(area); e != api.OK {
		return e
	}
	m.area, m.generation, m.laid, m.records = area, generation, len(list), slices.Clone(list)
	return api.OK
}

func (m *model) add(list []string) api.Errno {
	if len(list) == 0 {
		return api.OK
	}
	e := m.write(m.area, placed(m.generation, len(m.records)+1, list...))
	if e == api.OK {
		m.records = append(m.records, list...)
	}
	return e
}

// crash: the model, and the disk with it, behind a loss of power.
func (m *model) crash(r *rand.Rand, d *disk.Disk) *disk.Disk {
	keeps := []int{r.Intn(60) - 5, r.Intn(60) - 5}
	m.power = r.Intn(16) - 1
	for i, k := range keeps {
		m.safe[i] += min(max(k, 0), len(m.areas[i])-m.safe[i])
		m.areas[i] = m.areas[i][:m.safe[i]]
	}
	return d.Crash(keeps, m.power)
}

// anyTexts: up to four, of up to 20 bytes.
func anyTexts(r *rand.Rand) []string {
	list := make([]string, r.Intn(5))
	for i := range list {
		b := make([]byte, r.Intn(21))
		r.Read(b)
		list[i] = string(b)
	}
	return list
}

// step: the same call on both: do they answer the same? False, if another log is to be opened.
func step(t *testing.T, r *rand.Rand, l *Log, m *model) bool {
	var got, want api.Errno
	lay := false
	switch r.Intn(8) {
	case 0:
		lay = true
		list := anyTexts(r)
		got, want = l.Lay(payloads(list...)...), m.lay(1-m.area, m.generation+1, list)
	case 1, 2, 3:
		got, want = l.Sync(), m.sync(m.area)
	default:
		list := anyTexts(r)
		got, want = l.Add(payloads(list...)...), m.add(list)
	}
	if got != want {
		t.Fatalf("%d, not %d", got, want)
	}
	return !lay || got == api.OK
}

// same: the log's disk, and the log, are as the model is.
func (m *model) same(t *testing.T, what string, d *disk.Disk, l *Log) {
	t.Helper()
	reads(t, what, d, m.areas[:]...)
	leaves(t, what, d, m.areas[0][:m.safe[0]], m.areas[1][:m.safe[1]])
	if l != nil {
		holds(t, what, l, m.laid, m.records...)
	}
}

// run: a log through so many losses of power; all that its records were, once opened.
func run(t *testing.T, seed int64) (all [][]string) {
	r := rand.New(rand.NewSource(seed))
	d, m := disk.New(-1), &model{power: -1}
	for range 12 {
		l, e := Open(d)
		if want := m.open(); e != want || (l == nil) != (e != api.OK) {
			t.Fatalf("seed %d: %v, %d, not %d", seed, l, e, want)
		}
		m.same(t, "opened", d, l)
		if l != nil {
			all = append(all, texts(l.Records()))
		}
		for range r.Intn(12) {
			if l == nil || !step(t, r, l, m) {
				break
			}
			m.same(t, "step", d, l)
		}
		d = m.crash(r, d)
		m.same(t, "loss", d, nil)
		if t.Failed() {
			t.Fatal("seed ", seed)
		}
	}
	return all
}

// P5.1 to P5.4, P2: at all calls, and all losses of power, the log and its disk are as the model is, and twice the same.
func TestModel(t *testing.T) {
	for seed := range int64(1000) {
		first, again := run(t, seed), run(t, seed)
		if !slices.EqualFunc(first, again, slices.Equal) {
			t.Fatal("seed ", seed)
		}
	}
}

// anyArea: frames in disorder, of few generations and places.
func anyArea(r *rand.Rand) string {
	generation := 1 + r.Intn(3)
	s := written(generation, r.Intn(3))
	for place := range r.Intn(5) {
		switch r.Intn(12) {
		case 0:
			s += placed(1+r.Intn(3), place+1, "other")
		case 1:
			s += placed(generation, r.Intn(5), "r")
		case 2:
			s += written(generation, 0)
		default:
			s += placed(generation, place+1, string(rune('a'+place)))
		}
	}
	b := []byte(s)
	for r.Intn(3) == 0 {
		b[r.Intn(len(b))] = byte(r.Intn(256))
	}
	switch r.Intn(6) {
	case 0:
		b = b[:r.Intn(len(b))]
	case 1:
		at := r.Intn(len(b))
		b = slices.Insert(b, at, byte(r.Intn(256)))
	}
	return string(b)
}

// P5.1, P1: whatever the areas are: the log and its disk are as the model is; then they go on.
func TestOpenAnything(t *testing.T) {
	r := rand.New(rand.NewSource(5))
	counted := 0
	for i := range 60000 {
		m := &model{areas: [2]string{anyArea(r), anyArea(r)}, power: r.Intn(5) - 1}
		m.safe = [2]int{len(m.areas[0]), len(m.areas[1])}
		d := on(t, m.areas[0], m.areas[1], m.power)
		l, e := Open(d)
		if want := m.open(); e != want || (l == nil) != (e != api.OK) {
			t.Fatalf("%d: %v, %d, not %d", i, l, e, want)
		}
		m.same(t, "opened", d, l)
		if l != nil {
			step(t, r, l, m)
			counted += min(len(m.records), 1)
		}
		if t.Failed() {
			t.Fatal(i)
		}
	}
	if counted < 10000 {
		t.Errorf("hardly ever a record: %d", counted)
	}
}
