package disk

import (
	"math/rand"
	"slices"
	"testing"

	"stanchion/api"
)

// cell is a byte of the model: each knows for itself whether it is safe.
type cell struct {
	b    byte
	safe bool
}

// model is a disk, as the chapter's words go.
type model struct {
	areas [2][]cell
	power int
}

// down: is there no power? If there is, one call less.
func (m *model) down() bool {
	if m.power == 0 {
		return true
	}
	m.power = max(m.power-1, -1)
	return false
}

func (m *model) append(area int, parts [][]byte) api.Errno {
	if area != 0 && area != 1 {
		return api.ErrArea
	} else if m.down() {
		return api.ErrDown
	}
	for _, b := range slices.Concat(parts...) {
		m.areas[area] = append(m.areas[area], cell{b: b})
	}
	return api.OK
}

func (m *model) trim(area, n int) api.Errno {
	if area != 0 && area != 1 || n < 0 || n > len(m.areas[area]) {
		return api.ErrArea
	} else if m.down() {
		return api.ErrDown
	}
	m.areas[area] = m.areas[area][:n:n]
	return api.OK
}

func (m *model) sync(areas []int) api.Errno {
	for _, n := range areas {
		if n != 0 && n != 1 {
			return api.ErrArea
		}
	}
	if m.down() {
		return api.ErrDown
	}
	if len(areas) == 0 {
		areas = []int{0, 1}
	}
	for _, n := range areas {
		for i := range m.areas[n] {
			m.areas[n][i].safe = true
		}
	}
	return api.OK
}

func (m *model) crash(keeps []int, power int) *model {
	left := &model{power: power}
	for i := range left.areas {
		room := 0
		if i < len(keeps) {
			room = keeps[i]
		}
		for _, c := range m.areas[i] {
			if !c.safe && room <= 0 {
				break
			} else if !c.safe {
				room--
			}
			left.areas[i] = append(left.areas[i], cell{b: c.b, safe: true})
		}
	}
	return left
}

func (m *model) text(area int) string {
	var b []byte
	for _, c := range m.areas[area] {
		b = append(b, c.b)
	}
	return string(b)
}

// anyParts: up to three, of up to four bytes.
func anyParts(r *rand.Rand) [][]byte {
	parts := make([][]byte, r.Intn(4))
	for i := range parts {
		parts[i] = make([]byte, r.Intn(5))
		r.Read(parts[i])
	}
	return parts
}

// anyNumbers: up to so many, from low on, below high.
func anyNumbers(r *rand.Rand, most, low, high int) []int {
	list := make([]int, r.Intn(most+1))
	for i := range list {
		list[i] = low + r.Intn(high-low)
	}
	return list
}

// anyArea: an area, or, hardly ever, none.
func anyArea(r *rand.Rand) int {
	if r.Intn(20) == 0 {
		return r.Intn(9) - 4
	}
	return r.Intn(2)
}

// step: the same call on both: do they answer the same?
func step(t *testing.T, r *rand.Rand, d *Disk, m *model) {
	var got, want api.Errno
	area := anyArea(r)
	switch r.Intn(4) {
	case 0, 1:
		parts := anyParts(r)
		got, want = d.Append(area, parts...), m.append(area, parts)
	case 2:
		n := r.Intn(20) - 1
		if area == 0 || area == 1 {
			n = len(m.areas[area]) - n + 1
		}
		got, want = d.Trim(area, n), m.trim(area, n)
	case 3:
		areas := anyNumbers(r, 3, 0, 2)
		if r.Intn(10) == 0 {
			areas = append(areas, area)
		}
		got, want = d.Sync(areas...), m.sync(areas)
	}
	if got != want {
		t.Fatalf("%d, not %d", got, want)
	}
}

// P4.1 to P4.3, P2: at all calls in all orders the disk is as the model is, and twice the same.
func TestModel(t *testing.T) {
	for seed := range int64(3000) {
		r, again := rand.New(rand.NewSource(seed)), rand.New(rand.NewSource(seed))
		d, twin, m, n := New(-1), New(-1), &model{power: -1}, &model{power: -1}
		for range 60 {
			step(t, r, d, m)
			step(t, again, twin, n)
			holds(t, "disk", d, m.text(0), m.text(1))
			if r.Intn(8) == 0 {
				keeps, power := anyNumbers(r, 3, -2, 12), r.Intn(30)-3
				d, m = d.Crash(keeps, power), m.crash(keeps, power)
				holds(t, "left", d, m.text(0), m.text(1))
			}
			if again.Intn(8) == 0 {
				keeps, power := anyNumbers(again, 3, -2, 12), again.Intn(30)-3
				twin, n = twin.Crash(keeps, power), n.crash(keeps, power)
			}
			holds(t, "twin", twin, m.text(0), m.text(1))
			if t.Failed() {
				t.Fatal("seed ", seed)
			}
		}
	}
}

// P1: many small calls end soon.
func TestManyCalls(t *testing.T) {
	const n = 1 << 20
	d := New(-1)
	for range n {
		does(t, d.Append(0, []byte("x")), d.Sync(0))
	}
	for i := range n {
		does(t, d.Trim(0, n-1-i))
	}
	holds(t, "trimmed", d, "", "")
}
