package log

import (
	"slices"
	"strings"
	"testing"

	"stanchion/api"
	"stanchion/disk"
)

// The chapter's examples.
func TestExamples(t *testing.T) {
	d := disk.New(-1)
	l := opened(t, d)
	does(t, l.Add([]byte("a")), l.Sync(), l.Add([]byte("b"), []byte("c")))
	size := len(placed(1, 2, "b", "c"))
	for keep := range size + 1 {
		want := []string{"a", "b", "c"}[:1+keep/(size/2)]
		holds(t, "added", opened(t, d.Crash([]int{keep}, -1)), 0, want...)
	}
	does(t, l.Lay([]byte("x")))
	holds(t, "laid", l, 1, "x")
	holds(t, "laid", opened(t, d.Crash(nil, 0)), 1, "x")
}

// longs: lists of payloads one of which is too long.
func longs() map[string][][]byte {
	long := make([]byte, api.MaxField+1)
	return map[string][][]byte{
		"alone":         {long},
		"the first":     {long, []byte("a")},
		"the last":      {[]byte("a"), nil, long},
		"in the midst":  {nil, long, nil},
		"all":           {long, long},
		"much longer":   {[]byte("a"), make([]byte, 1<<20)},
		"the same list": slices.Repeat([][]byte{long}, 5),
	}
}

// P5.2, P5.4: the frames stand behind the others', in one Append; the records are there at once.
func TestAdd(t *testing.T) {
	for _, x := range [][]string{
		{"a"}, {""}, {"", "", ""}, {"a", "b", "c"}, {"a", "", "a"}, {"\x00\xff", "\x80"}, {strings.Repeat("x", 127), strings.Repeat("y", 128)},
		{strings.Repeat("x", api.MaxField)}, {"a", strings.Repeat("x", api.MaxField), "b"}, slices.Repeat([]string{"r"}, 3*api.MaxParts),
	} {
		for _, was := range [][]string{nil, {"z"}, slices.Repeat([]string{"z"}, 127)} {
			d := on(t, "", written(6, len(was), was...), 1)
			l := opened(t, d)
			does(t, l.Add(payloads(x...)...))
			all := slices.Concat(was, x)
			holds(t, "added", l, len(was), all...)
			reads(t, "added", d, "", written(6, len(was), all...))
			leaves(t, "added", d, "", written(6, len(was), was...))
			holds(t, "opened", opened(t, d.Crash([]int{0, 1 << 30}, 0)), len(was), all...)
			if d.Sync() != api.ErrDown {
				t.Errorf("%.20q: no call of the disk", x)
			}
		}
	}
}

// P5.2: one Add behind another: the places go on, behind those of a log that was opened too.
func TestAddMore(t *testing.T) {
	d := disk.New(-1)
	var all []string
	l := opened(t, d)
	for i := range 300 {
		list := []string{string(num(i)), strings.Repeat("x", i), ""}[:i%4%3+1]
		all = append(all, list...)
		does(t, l.Add(payloads(list...)...))
		holds(t, "added", l, 0, all...)
		reads(t, "added", d, written(1, 0, all...), "")
		if i%7 == 0 {
			does(t, l.Sync())
			d = d.Crash(nil, -1)
			l = opened(t, d)
		}
	}
	holds(t, "opened", opened(t, d.Crash([]int{1 << 30}, 0)), 0, all...)
}

// P5.2: without payloads there is no call of the disk, and no error.
func TestAddNothing(t *testing.T) {
	for _, power := range []int{-1, 0, 1} {
		d := on(t, written(1, 1, "a"), "", power)
		l := opened(t, d)
		does(t, l.Add(), l.Add(nil...), l.Add([][]byte{}...), l.Add(payloads("x")[:0]...))
		holds(t, "nothing", l, 1, "a")
		reads(t, "nothing", d, written(1, 1, "a"), "")
		if power >= 0 && left(d) != power {
			t.Error("Add of nothing takes of the power")
		}
	}
}

// P5.2, rule 1: a payload that is nil is one of no bytes.
func TestAddNil(t *testing.T) {
	d := on(t, written(1, 0), "", -1)
	l := opened(t, d)
	does(t, l.Add(nil, nil), l.Add([]byte{}))
	holds(t, "nil", l, 0, "", "", "")
	reads(t, "nil", d, written(1, 0, "", "", ""), "")
}

// P5.2: ErrLong comes ahead of the disk's error; nothing is done, no shorter payload is added.
func TestAddRefuses(t *testing.T) {
	for name, list := range longs() {
		for power := range 3 {
			d := on(t, written(1, 1, "a", "b"), "junk", power)
			l := opened(t, d)
			if e := l.Add(list...); e != api.ErrLong {
				t.Errorf("%s, power %d: %d", name, power, e)
			}
			holds(t, name, l, 1, "a", "b")
			reads(t, name, d, written(1, 1, "a", "b"), "junk")
			if power > 0 {
				does(t, l.Add([]byte("c")))
				holds(t, name, l, 1, "a", "b", "c")
				power--
			}
			if n := left(d); n != power {
				t.Errorf("%s: power for %d calls, not %d", name, n, power)
			}
		}
	}
}

// P5.2, rule 4: the disk's error; the records are as they were.
func TestAddDown(t *testing.T) {
	d := on(t, written(1, 0, "a"), "", 1)
	l := opened(t, d)
	does(t, l.Add([]byte("b")))
	for range 3 {
		if e := l.Add([]byte("c"), []byte("d")); e != api.ErrDown {
			t.Error(e)
		}
		holds(t, "down", l, 0, "a", "b")
		reads(t, "down", d, written(1, 0, "a", "b"), "")
	}
	does(t, l.Add())
}

// P5.2: Sync is one of the area that counts, and of no other.
func TestSync(t *testing.T) {
	for area, areas := range [][2]string{{written(2, 0), written(1, 0)}, {written(1, 0), written(2, 0)}} {
		d := on(t, areas[0], areas[1], 4)
		l := opened(t, d)
		does(t, d.Append(1-area, []byte("junk")), l.Add([]byte("a"), []byte("b")))
		leaves(t, "added", d, areas[:]...)
		does(t, l.Sync())
		areas[area] += placed(2, 1, "a", "b")
		leaves(t, "synced", d, areas[:]...)
		does(t, l.Add([]byte("c")))
		leaves(t, "more", d, areas[:]...)
		if e := l.Sync(); e != api.ErrDown {
			t.Error(e)
		}
		leaves(t, "down", d, areas[:]...)
		holds(t, "down", l, 0, "a", "b", "c")
	}
}

// P5.4: Records and Laid go on without power, and take nothing of it.
func TestRecordsTakeNoPower(t *testing.T) {
	d := on(t, written(3, 2, "a", "b", "c"), "", 2)
	l := opened(t, d)
	for range 5 {
		holds(t, "again", l, 2, "a", "b", "c")
	}
	if n := left(d); n != 2 {
		t.Errorf("power for %d calls", n)
	}
	holds(t, "down", l, 2, "a", "b", "c")
}

// P1: many records, and a long area, end soon.
func TestManyRecords(t *testing.T) {
	const n = 1 << 16
	d := disk.New(-1)
	l := opened(t, d)
	want := make([]string, n)
	for i := range want {
		want[i] = num(i)
		does(t, l.Add([]byte(want[i])))
	}
	holds(t, "added", l, 0, want...)
	holds(t, "opened", opened(t, d.Crash([]int{1 << 30}, 0)), 0, want...)
	does(t, l.Lay(payloads(want...)...))
	holds(t, "laid", l, n, want...)
	holds(t, "opened", opened(t, d.Crash(nil, 0)), n, want...)
	opened(t, on(t, strings.Repeat("\x00", 1<<24), strings.Repeat("\xff", 1<<24), -1))
}
